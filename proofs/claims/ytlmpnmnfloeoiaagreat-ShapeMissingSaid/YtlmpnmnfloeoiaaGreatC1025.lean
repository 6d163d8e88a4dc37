/- Texts that the proof is made of, joined. No condition. -/
import Derived.Test.YtlmpnmnfloeoiaaGreatC1024
import Derived.Deep.DeepCutAuto
import Derived.Deep.CutBlock
import Derived.Deep.LoopGhost
import Derived.Test.YtlmpnmnfloeoiaaGreatC10H
set_option linter.unusedVariables false
set_option linter.unusedSimpArgs false
set_option maxRecDepth 100000
set_option maxHeartbeats 16000000
namespace Go.Proofs.YtlmpnmnfloeoiaaGreat.R
open Go.RowKit Go.Proofs.YtlmpnmnfloeoiaaGreat.D Go.Proofs.YtlmpnmnfloeoiaaGreat.O Go.Proofs.YtlmpnmnfloeoiaaGreat.A
theorem al2 (w : World) (X : Obj) (cs : Array Value) (T : TypeId) : ((w.alloc X).alloc (.cells cs T)).heap[w.heap.size + 1]? = some (.cells cs T (0, 0)) := by
  have h := heap_alloc_new (w.alloc X) (.cells cs T)
  rwa [World.size_alloc] at h
theorem bl2 (w : World) (X Y : Obj) : Below w.heap.size w ((w.alloc X).alloc Y) := (below_alR w X).trans ((below_alR _ Y).mono (by simp))
theorem four_al (w : World) (X1 X2 X3 X4 : Obj) : Below w.heap.size w ((((w.alloc X1).alloc X2).alloc X3).alloc X4) ∧ ((((w.alloc X1).alloc X2).alloc X3).alloc X4).heap.size = w.heap.size + 4 :=
  ⟨(bl2 w X1 X2).trans ((bl2 _ X3 X4).mono (by simp <;> omega)), by simp⟩
theorem four_2 (w : World) (X1 X3 X4 : Obj) (cs : Array Value) (T : TypeId) : ((((w.alloc X1).alloc (.cells cs T)).alloc X3).alloc X4).heap[w.heap.size + 1]? = some (.cells cs T (0, 0)) := by
  rw [(bl2 _ X3 X4).block _ (by simp)]
  exact al2 _ _ _ _
theorem four_3 (w : World) (X1 X2 X4 : Obj) (cs : Array Value) (T : TypeId) : ((((w.alloc X1).alloc X2).alloc (.cells cs T)).alloc X4).heap[w.heap.size + 1 + 1]? = some (.cells cs T (0, 0)) := by
  rw [(below_alR _ X4).block _ (by simp)]
  have h := al2 (w.alloc X1) X2 cs T
  rwa [World.size_alloc] at h
theorem four_4 (w : World) (X1 X2 X3 : Obj) (cs : Array Value) (T : TypeId) : ((((w.alloc X1).alloc X2).alloc X3).alloc (.cells cs T)).heap[w.heap.size + 1 + 1 + 1]? = some (.cells cs T (0, 0)) := by
  have h := al2 ((w.alloc X1).alloc X2) X3 cs T
  rwa [World.size_alloc, World.size_alloc] at h
theorem and3 {m : Nat} (hm : m < 256) : bits .and .u8 (m : Int) 3 = ((m % 4 : Nat) : Int) := by
  rw [show (3 : Int) = ((3 : Nat) : Int) from rfl, u8_and_nat _ _ (by omega) (by omega), show (3 : Nat) = 2 ^ 2 - 1 from rfl, Nat.and_two_pow_sub_one_eq_mod]
theorem and1 {m : Nat} (hm : m < 256) : bits .and .u8 (m : Int) 1 = ((m % 2 : Nat) : Int) := by
  rw [show (1 : Int) = ((1 : Nat) : Int) from rfl, u8_and_nat _ _ (by omega) (by omega), Nat.and_one_is_mod]
theorem dig4 (p n c : Nat) (hp : p < 256) (hc : 4 ^ n = c) : bits .and .u8 ((p : Int) / (c : Int)) 3 = (x4 p n : Int) := by
  rw [← Int.natCast_ediv, and3 (Nat.lt_of_le_of_lt (Nat.div_le_self _ _) hp), x4, hc]
theorem dig2 (p n c : Nat) (hp : p < 256) (hc : 2 ^ n = c) : bits .and .u8 ((p : Int) / (c : Int)) 1 = (x2 p n : Int) := by
  rw [← Int.natCast_ediv, and1 (Nat.lt_of_le_of_lt (Nat.div_le_self _ _) hp), x2, hc]
theorem dig4_0 (p : Nat) (hp : p < 256) : bits .and .u8 (p : Int) 3 = (x4 p 0 : Int) := by
  rw [and3 hp]; unfold x4; simp
theorem dig2_0 (p : Nat) (hp : p < 256) : bits .and .u8 (p : Int) 1 = (x2 p 0 : Int) := by
  rw [and1 hp]; unfold x2; simp
def wtB (x y z : Nat) : Bool := (((x : Int) == 2) || ((z : Int) == 1)) && ((y : Int) == 0) && ((x : Int) != 3)
theorem bd_of {LW : List ByteArray} {m kk : Nat} {KQ : Int} (hm : LW.length = m) (hk : (kk : Int) + 1 = KQ) : (!LW.isEmpty && KQ != 2) = (decide ((0 : Int) < (m : Int)) && !((kk : Int) == 1)) := by
  subst hm hk
  have h2 : (((kk : Int) + 1) != 2) = !((kk : Int) == 1) := by
    rw [Bool.eq_iff_iff]
    simp
    omega
  rw [h2]
  cases LW with
  | nil => rfl
  | cons a l => rw [decide_eq_true (by simp <;> omega)]; rfl
theorem wt_on {k x y z : Nat} (h : wtB x y z = true) : wnM k x y z = [nmV3 k] := by
  unfold wtB at h
  simp only [Bool.and_eq_true, Bool.or_eq_true, beq_iff_eq, bne_iff_ne] at h
  unfold wnM
  exact if_pos ⟨by omega, by omega, by omega⟩
theorem wt_off {k x y z : Nat} (h : wtB x y z = false) : wnM k x y z = [] := by
  unfold wnM
  refine if_neg (fun hh => ?_)
  have : wtB x y z = true := by
    unfold wtB
    simp only [Bool.and_eq_true, Bool.or_eq_true, beq_iff_eq, bne_iff_ne]
    omega
  rw [this] at h
  cases h
theorem l0_on {k x : Nat} {nm : ByteArray} {ab : Bool} (h : 1 < x) (hn : nmK k = nm) (ha : ((x : Int) == 2) = ab) : l0M k x = [mthV nm false ab 5] := by
  unfold l0M
  rw [if_pos h, hn, show (x == 2) = ab by rw [← ha, Bool.eq_iff_iff, beq_iff_eq, beq_iff_eq]; omega]
set_option maxHeartbeats 8000000 in
set_option maxRecDepth 100000 in
theorem missing_l (p q i k : Nat) (w : World) (hp : p < 256) (hq : q < 256) (hi : i < 256) :
    Calls Tryz.prog 4 #[.int .u8 (p : Int), .int .u8 (q : Int), .int .u8 (i : Int), .int .u8 (k : Int)] w fun e w' => e = .returned (.bool true) ∧ Below w.heap.size w w' := by
  go_enter Tryz.func4, Tryz.ntmps4
  try simp only [List.append_eq, List.cons_append, List.nil_append]
  go_wp2_with fail
  refine (known_10 w).mono ?_
  rintro e w1 ⟨rfl, hb1⟩
  obtain ⟨kk, hkk, hkl⟩ : ∃ kk : Nat, (k : Int).tmod 3 = (kk : Int) ∧ kk < 3 := ⟨k % 3, by rw [Int.tmod_eq_emod_of_nonneg (Int.natCast_nonneg k)]; omega, by omega⟩
  have HKK := Lib.hid hkk
  have HB1 := Lib.hid hb1
  clear hkk hb1
  go_upto_region 3 with fail
  go_cut [9] (fun s9 wx => ∃ xb gc gi, s9 = .pointer (some ⟨xb, 0, none⟩) ∧ w.heap.size ≤ gc ∧ Hid (MsR wx wx.heap.size xb gc gi ((kk : Int) + 1) (.slice none 0 0) (.slice none 0 0) (.slice none 0 0) (.slice none 0 0) [] [] [] []) ∧ Hid (Below w.heap.size w wx))
  case first =>
    have hkk := HKK.out
    have hk3 : kk = 0 ∨ kk = 1 ∨ kk = 2 := by omega
    have hge := HB1.out.size
    clear HKK
    rcases hk3 with rfl | rfl | rfl
    all_goals
      go_wp2_with fail
      go_meet
      case rel =>
        refine ⟨_, _, _, rfl, ?_, Lib.hid ⟨⟨four_4 _ _ _ _ _ _, four_3 _ _ _ _ _ _, four_2 _ _ _ _ _ _, ?_, ?_, ?_, ?_, ?_⟩, OwnX.nil _ _ _ _ _, OwnX.nil _ _ _ _ _, OwnX.nil _ _ _ _ _, S.OwnC.nil _ _, ?_, ?_, ?_, ?_, ?_, ?_⟩, Lib.hid (HB1.out.trans ((four_al _ _ _ _ _).1.mono hge))⟩
        all_goals first | omega | (simp [apart, Value.ownBlock]; done) | (simp <;> omega)
  case rest =>
    obtain ⟨xb, gc, gi, rfl, hgc, HM0, HB0⟩ := hcut
    obtain ⟨B, hB⟩ : ∃ x, wc.heap.size = x := ⟨_, rfl⟩
    rw [hB] at HM0
    have HBs : Hid (B ≤ wc.heap.size) := Lib.hid (by omega)
    obtain ⟨KQ, hKQ⟩ : ∃ x, (kk : Int) + 1 = x := ⟨_, rfl⟩
    rw [hKQ] at HM0
    have HKQ := Lib.hid hKQ
    have HGB : Hid (gc < B ∧ w.heap.size ≤ gc) := Lib.hid ⟨HM0.out.1.2.2.2.2.1, hgc⟩
    clear hB hKQ hgc HB1
    obtain ⟨wo, hwo⟩ : ∃ x, x = wc := ⟨_, rfl⟩
    subst hwo
    go_wp2_with fail
    go_loopg [10, 11] 3 (fun g v x wr => ∃ (n : Nat) (v0 v1 v2 : Value), x = .int .i64 (n : Int) ∧ n + g = 3 ∧ Hid (MsR wr B xb gc gi KQ v0 v1 v2 v (l0P p n) (l1P q n) (l2P i n) (wnP p q i n)) ∧ Hid (Below w.heap.size w wr) ∧ Hid (B ≤ wr.heap.size))
    case atStart => exact ⟨0, _, _, _, rfl, rfl, HM0, HB0, HBs⟩
    case round =>
      clear HM0 HB0 HBs
      obtain ⟨n, v0, v1, v2, rfl, hng, HM, HB, HBs⟩ := hrel
      cases gk with
      | zero =>
        obtain rfl : n = 3 := by omega
        clear hng
        have hok := mi_ok p q i kk hkl
        rw [HKQ.out] at hok
        obtain ⟨f1, f2, f3, f4, f5⟩ := mi_facts hok
        have hwl := wn_len p q i 3
        have g0 := l0_flat p 3
        have g1 := l1_flat q 3
        have g2 := l2_flat i 3
        obtain ⟨L0, hL0⟩ : ∃ l, l0P p 3 = l := ⟨_, rfl⟩
        obtain ⟨L1, hL1⟩ : ∃ l, l1P q 3 = l := ⟨_, rfl⟩
        obtain ⟨L2, hL2⟩ : ∃ l, l2P i 3 = l := ⟨_, rfl⟩
        obtain ⟨LW, hLW⟩ : ∃ l, wnP p q i 3 = l := ⟨_, rfl⟩
        rw [hL0] at g0
        rw [hL1] at g1
        rw [hL2] at g2
        rw [hLW] at hwl
        rw [hL0, hL1, hL2, hLW] at HM
        rw [hL0, hL1, hL2] at f1 f2 f4 f5
        rw [hLW] at f2 f3 f4
        clear hL0 hL1 hL2 hLW hok
        obtain ⟨A, hA⟩ : ∃ a, miA KQ L0 L1 L2 = a := ⟨_, rfl⟩
        rw [hA] at f1 f2 f4 f5
        have hA3 : A.length = 3 := by rw [← hA]; rfl
        have HRD : ∀ (W : World) (vw : Value), MsR W B xb gc gi KQ v0 v1 v2 vw L0 L1 L2 LW → RdX 6 cP anyB W (.slice (some ⟨gc, 0, none⟩) A.length 3) A := fun W vw h => by have := h.arc g0 g1 g2; rwa [hA] at this
        have hck := ckA_of f1
        obtain ⟨pw, cw, hvw, -, -⟩ := HM.out.2.2.2.2.1.rd.form
        subst hvw
        obtain ⟨m, hm⟩ : ∃ m, LW.length = m := ⟨_, rfl⟩
        rw [hm] at HM ⊢
        obtain ⟨bd, hbd⟩ : ∃ b, (!LW.isEmpty && KQ != 2) = b := ⟨_, rfl⟩
        rw [hbd] at f2
        have HBD : Hid (bd = (decide ((0 : Int) < (m : Int)) && !((kk : Int) == 1))) := Lib.hid (by rw [← hbd]; exact bd_of hm HKQ.out)
        have hch := check_h A (some ⟨gc, 0, none⟩) 3 anyB wr (HRD wr _ HM.out) hck
        obtain ⟨c1, hc1⟩ : ∃ c, (checkK A).1 = c := ⟨_, rfl⟩
        obtain ⟨c2, hc2⟩ : ∃ c, (checkK A).2 = c := ⟨_, rfl⟩
        rw [hA3, hc1, hc2] at hch
        have HC : Hid ((c1, c2) = if bd = true then (1, 27) else (0, 0)) := Lib.hid (by rw [← hc1, ← hc2]; exact f2)
        have HCH := Lib.hid hch
        have HNW : Hid (∀ W vw, MsR W B xb gc gi KQ v0 v1 v2 vw L0 L1 L2 LW → Calls Tryz.prog 11 #[.agg #[.slice (some ⟨gc, 0, none⟩) 3 3]] W fun e w' => ∃ tb mb vs, e = .returned (.pointer (some ⟨tb, 0, none⟩)) ∧ TrW w' (fun b => W.heap.size ≤ b) tb mb vs (keepL A) ∧ Below W.heap.size W w') := Lib.hid (fun W vw h => by
          have := New_t A (some ⟨gc, 0, none⟩) 3 anyB W (HRD W vw h) hck.1 hck.2.1
          rwa [hA3] at this)
        have HAK := Lib.hid hck.2.2.1
        have HF3 := Lib.hid f3
        have HF4 := Lib.hid f4
        have HF5 := Lib.hid f5
        have HWL := Lib.hid hwl
        obtain ⟨x_l, x_c, -⟩ := boxN HM.out.1.1
        have x_0 := x_c 0 _ rfl
        simp only [Nat.zero_add] at x_0
        clear x_c f1 f2 f3 f4 f5 g0 g1 g2 hA hA3 HRD hck hch hc1 hc2 hbd hm hwl
        go_wp2_with fail
        refine HCH.out.mono ?_
        rintro e w7 ⟨rfl, hb7⟩
        have HM7 := Lib.hid (HM.out.below hb7)
        have HB7 := Lib.hid (HB.out.trans (hb7.mono HB.out.size))
        clear x_l x_0 hb7 HM HB HCH HBs
        obtain ⟨x_l, x_c, -⟩ := boxN HM7.out.1.1
        have x_0 := x_c 0 _ rfl
        simp only [Nat.zero_add] at x_0
        clear x_c
        go_wp2_with fail
        refine (HNW.out w7 _ HM7.out).mono ?_
        rintro e w8 ⟨tb, mb, vs, rfl, ht8, hb8⟩
        have HM8 := Lib.hid (HM7.out.below hb8)
        have HB8 := Lib.hid (HB7.out.trans (hb8.mono HB7.out.size))
        have HT8 := Lib.hid ht8
        clear x_l x_0 ht8 hb8 HM7 HB7 HNW
        go_wp2_with fail
        refine (Missing_h _ tb mb vs (keepL A) ⟨#[81]⟩ w8 HT8.out (by show 1 ≤ maxLen; unfold maxLen; omega) HAK.out HF5.out).mono ?_
        rintro e w9 ⟨vR, R, rfl, hoR, hsr, hmem, hb9⟩
        have hRL : R = LW := S.srt_eq S.toS hsr HF3.out (fun y => (hmem y).trans (HF4.out y))
        subst hRL
        have HM9 := Lib.hid (HM8.out.below hb9)
        have HB9 := Lib.hid (HB8.out.trans (hb9.mono HB8.out.size))
        have hst := S.strs_S vR (.slice pw m cw) R R _ _ w9 hoR.rd HM9.out.2.2.2.2.1.rd (by have := HWL.out; omega) (by have := HWL.out; omega)
        rw [show S.eqB R R = true from S.eqB_iff.2 rfl] at hst
        have HST := Lib.hid hst
        obtain ⟨pr, nr, cr, hvR⟩ := hoR.slice
        subst hvR
        clear hst hoR hsr hmem hb9 HM8 HB8 HM9 HT8 HAK HF3 HF4 HF5 HWL
        go_upto_region 20 with fail
        go_cut [19] (fun s wx => s = .bool bd ∧ Hid (wx = w9))
        case first =>
          have hkk := HKK.out
          clear HKK HST HB9
          by_cases h0 : (0 : Int) < (m : Int)
          · have HH0 := Lib.hid h0
            cases e1 : ((kk : Int) == 1)
            all_goals
              have e2 : ((kk : Int) != 1) = !((kk : Int) == 1) := rfl
              rw [e1] at e2
              go_wp2_with fail
              go_meet
              case rel => exact ⟨congrArg Value.bool (by rw [HBD.out, decide_eq_true HH0.out, e1]; rfl), Lib.hid rfl⟩
          · have HH0 := Lib.hid h0
            go_wp2_with fail
            go_meet
            case rel => exact ⟨congrArg Value.bool (by rw [HBD.out, decide_eq_false (fun hh => by have := HH0.out; omega)]; rfl), Lib.hid rfl⟩
        case rest =>
          obtain ⟨rfl, hwc⟩ := hcut
          obtain rfl := hwc.out
          clear hwc HBD HKK
          cases bd with
          | true =>
            have hcc := HC.out
            simp only [if_true, Prod.mk.injEq] at hcc
            obtain ⟨rfl, rfl⟩ := hcc
            clear HC
            go_wp2_with fail
            refine HST.out.mono ?_
            rintro e wd ⟨rfl, nd, rfl⟩
            go_wp2_with fail
            go_ret
            exact ⟨rfl, below_drewN HB9.out nd⟩
          | false =>
            have hcc := HC.out
            simp only [Bool.false_eq_true, if_false, Prod.mk.injEq] at hcc
            obtain ⟨rfl, rfl⟩ := hcc
            clear HC
            go_wp2_with fail
            refine HST.out.mono ?_
            rintro e wd ⟨rfl, nd, rfl⟩
            go_wp2_with fail
            go_ret
            exact ⟨rfl, below_drewN HB9.out nd⟩
      | succ g =>
        have hlt : n < 3 := by omega
        have hlt' : (n : Int) < 3 := by omega
        have n0 : (0 : Int) ≤ (n : Int) := by omega
        go_upto_region 8 with fail
        go_cut [12] from 37 to 40 (fun s12 wx => s12 = .string (nmK n) ∧ Hid (Below wr.heap.size wr wx))
        case first =>
          have hn3 : n = 0 ∨ n = 1 ∨ n = 2 := by omega
          rcases hn3 with rfl | rfl | rfl
          all_goals
            go_wp2_with fail
            go_meet
            case rel => exact ⟨rfl, Lib.hid (below_alR _ _)⟩
        case rest =>
          obtain ⟨rfl, HBc⟩ := hcut
          have HMc := Lib.hid (HM.out.below HBc.out)
          have HBw := Lib.hid (HB.out.trans (HBc.out.mono HB.out.size))
          have HBv : Hid (B ≤ wc.heap.size) := Lib.hid (Nat.le_trans HBs.out HBc.out.size)
          clear HM HB HBs HBc
          obtain ⟨w2, hw2⟩ : ∃ x, x = wc := ⟨_, rfl⟩
          subst hw2
          obtain ⟨nm, hnm⟩ : ∃ x, nmK n = x := ⟨_, rfl⟩
          have HNM := Lib.hid hnm
          rw [hnm]
          clear hnm
          go_upto_region 9 with fail
          go_cut [13, 14, 15] from 41 to 53 (fun a b c wx => a = .int .u8 (x4 p n : Int) ∧ b = .int .u8 (x2 q n : Int) ∧ c = .int .u8 (x2 i n : Int) ∧ ∃ nq, Hid (wx = w2.drewN nq))
          case first =>
            have hn3 : n = 0 ∨ n = 1 ∨ n = 2 := by omega
            have g0 : IntKind.i64.wrap 0 = 0 := by decide
            have g2 : IntKind.i64.wrap 2 = 2 := by decide
            have g4 : IntKind.i64.wrap 4 = 4 := by decide
            clear HMc HBw HBv
            rcases hn3 with rfl | rfl | rfl
            all_goals
              go_quiet (fail)
              go_wp2_with fail
              go_meet
              case rel => exact ⟨congrArg (Value.int .u8) (by first | exact dig4_0 p hp | exact dig4 p 1 4 hp rfl | exact dig4 p 2 16 hp rfl), congrArg (Value.int .u8) (by first | exact dig2_0 q hq | exact dig2 q 1 2 hq rfl | exact dig2 q 2 4 hq rfl), congrArg (Value.int .u8) (by first | exact dig2_0 i hi | exact dig2 i 1 2 hi rfl | exact dig2 i 2 4 hi rfl), _, Lib.hid rfl⟩
          case rest =>
            obtain ⟨rfl, rfl, rfl, nq, hwc⟩ := hcut
            obtain ⟨w3, hw3⟩ : ∃ x, x = wc := ⟨_, rfl⟩
            subst hw3
            have HM3 : Hid (MsR w3 B xb gc gi KQ v0 v1 v2 u10 (l0P p n) (l1P q n) (l2P i n) (wnP p q i n)) := Lib.hid (by rw [hwc.out]; exact HMc.out.below (below_drewN (Below.refl _ _) nq))
            have HB3 : Hid (Below w.heap.size w w3) := Lib.hid (by rw [hwc.out]; exact below_drewN HBw.out nq)
            have HV3 : Hid (B ≤ w3.heap.size) := Lib.hid (by rw [hwc.out]; exact HBv.out)
            clear HMc HBw HBv hwc
            obtain ⟨L0, hL0⟩ : ∃ l, l0P p n = l := ⟨_, rfl⟩
            obtain ⟨L1, hL1⟩ : ∃ l, l1P q n = l := ⟨_, rfl⟩
            obtain ⟨L2, hL2⟩ : ∃ l, l2P i n = l := ⟨_, rfl⟩
            obtain ⟨LW, hLW⟩ : ∃ l, wnP p q i n = l := ⟨_, rfl⟩
            have HL0 : Hid (L0.length + 1 ≤ 1000000) := Lib.hid (by rw [← hL0]; have := l0_len p n; omega)
            have HL1 : Hid (L1.length + 1 ≤ 1000000) := Lib.hid (by rw [← hL1]; have := l1_len q n; omega)
            have HL2 : Hid (L2.length + 1 ≤ 1000000) := Lib.hid (by rw [← hL2]; have := l2_len i n; omega)
            have HLW : Hid (LW.length + 1 ≤ 1000000) := Lib.hid (by rw [← hLW]; have := wn_len p q i n; omega)
            rw [hL0, hL1, hL2, hLW] at HM3
            have HE0 := Lib.hid hL0
            have HE1 := Lib.hid hL1
            have HE2 := Lib.hid hL2
            have HEW := Lib.hid hLW
            clear hL0 hL1 hL2 hLW
            have hxl := x4_lt p n
            obtain ⟨x, hx⟩ : ∃ x, x4 p n = x := ⟨_, rfl⟩
            obtain ⟨y, hy⟩ : ∃ x, x2 q n = x := ⟨_, rfl⟩
            obtain ⟨z, hz⟩ : ∃ x, x2 i n = x := ⟨_, rfl⟩
            rw [hx] at hxl
            rw [hx, hy, hz]
            have HX := Lib.hid hx
            have HY := Lib.hid hy
            have HZ := Lib.hid hz
            clear hx hy hz
            go_upto_if 55 with fail
            go_cut [] from 54 to 70 (fun wx => ∃ u0, Hid (MsR wx B xb gc gi KQ u0 v1 v2 u10 (L0 ++ l0M n x) L1 L2 LW) ∧ Hid (Below w.heap.size w wx) ∧ Hid (B ≤ wx.heap.size))
            case first =>
              by_cases h1 : 1 < x
              · have h1' : (1 : Int) < (x : Int) := by omega
                obtain ⟨ab, hab⟩ : ∃ b, ((x : Int) == 2) = b := ⟨_, rfl⟩
                have HLL := Lib.hid (l0_on (k := n) h1 HNM.out hab)
                have HS : Hid (MsR w3.drew B xb gc gi KQ v0 v1 v2 u10 L0 L1 L2 LW) := Lib.hid (HM3.out.below (Below.refl _ _).drew)
                have HBB := HV3
                go_upto_region 11 with fail
                refine wp_region_held_drew (S := fun W => W.cell? ⟨xb, 0, none⟩ = some (.slice (some ⟨gc, 0, none⟩) 3 3)) (by kernel_rfl) (by first | exact HS.out.held | exact HH.out) (fun hHeld => ?_)
                refine wpAnyH_take (i := 0) (oi := _) (v := ?_) (by simp only [List.getElem?_toArray, List.getElem?_cons_zero]; rfl) (by kernel_rfl) (by kernel_rfl) (by kernel_rfl) (by intro _ _ _ h; exact h) (Or.inl ⟨by rfl, fun W hSw => ?_⟩) hHeld ?_
                rotate_left 1
                · (clear hSw; first | (go_simp; done) | (go_simp; with_reducible rfl))
                try go_frame
                refine wpAnyH_take (i := 1) (oi := _) (v := ?_) (by simp only [List.getElem?_toArray, List.getElem?_cons_succ, List.getElem?_cons_zero]; rfl) (by kernel_rfl) (by kernel_rfl) (by kernel_rfl) (by intro _ _ _ h; exact h) (Or.inl ⟨by rfl, fun W hSw => ?_⟩) hHeld ?_
                rotate_left 1
                · (try dsimp only at hSw); first | (go_simp; done) | (go_simp; with_reducible rfl)
                try go_frame
                refine wpAnyH_take (i := 2) (oi := _) (v := ?_) (by simp only [List.getElem?_toArray, List.getElem?_cons_succ, List.getElem?_cons_zero]; rfl) (by kernel_rfl) (by kernel_rfl) (by kernel_rfl) (by intro _ _ _ h; exact h) (Or.inl ⟨by rfl, fun W hSw => ?_⟩) hHeld ?_
                rotate_left 1
                · (clear hSw; first | (go_simp; done) | (go_simp; with_reducible rfl))
                try go_frame
                refine wpAnyH_take (i := 3) (oi := _) (v := ?_) (by simp only [List.getElem?_toArray, List.getElem?_cons_succ, List.getElem?_cons_zero]; rfl) (by kernel_rfl) (by kernel_rfl) (by kernel_rfl) (by intro _ _ _ h; exact h) (Or.inl ⟨by rfl, fun W hSw => ?_⟩) hHeld ?_
                rotate_left 1
                · (try dsimp only at hSw); first | (go_simp; done) | (go_simp; with_reducible rfl)
                try go_frame
                refine wpAnyH_take (i := 4) (oi := _) (v := ?_) (by simp only [List.getElem?_toArray, List.getElem?_cons_succ, List.getElem?_cons_zero]; rfl) (by kernel_rfl) (by kernel_rfl) (by kernel_rfl) (by intro _ _ _ h; exact h) (Or.inl ⟨by rfl, fun W hSw => ?_⟩) hHeld ?_
                rotate_left 1
                · (clear hSw; first | (go_simp; done) | (go_simp; with_reducible rfl))
                try go_frame
                refine wpAnyH_take (i := 5) (oi := _) (v := ?_) (by simp only [List.getElem?_toArray, List.getElem?_cons_succ, List.getElem?_cons_zero]; rfl) (by kernel_rfl) (by kernel_rfl) (by kernel_rfl) (by intro _ _ _ h; exact h) (Or.inl ⟨by rfl, fun W hSw => ?_⟩) hHeld ?_
                rotate_left 1
                · (clear hSw; first | (go_simp; done) | (go_simp; with_reducible rfl))
                try go_frame
                refine wpAnyH_take (i := 7) (oi := _) (v := ?_) (by simp only [List.getElem?_toArray, List.getElem?_cons_succ, List.getElem?_cons_zero]; rfl) (by kernel_rfl) (by kernel_rfl) (by kernel_rfl) (by intro _ _ _ h; exact h) (Or.inl ⟨by rfl, fun W hSw => ?_⟩) hHeld ?_
                rotate_left 1
                · (clear hSw; first | (go_simp; done) | (go_simp; with_reducible rfl))
                try go_frame
                refine wpAnyH_take (i := 8) (oi := _) (v := ?_) (by simp only [List.getElem?_toArray, List.getElem?_cons_succ, List.getElem?_cons_zero]; rfl) (by kernel_rfl) (by kernel_rfl) (by kernel_rfl) (by intro _ _ _ h; exact h) (Or.inl ⟨by rfl, fun W hSw => ?_⟩) hHeld ?_
                rotate_left 1
                · (clear hSw; first | (go_simp; done) | (go_simp; with_reducible rfl))
                try go_frame
                refine wpAnyH_take (i := 9) (oi := _) (v := ?_) (by simp only [List.getElem?_toArray, List.getElem?_cons_succ, List.getElem?_cons_zero]; rfl) (by kernel_rfl) (by kernel_rfl) (by kernel_rfl) (by intro _ _ _ h; exact h) (Or.inl ⟨by rfl, fun W hSw => ?_⟩) hHeld ?_
                rotate_left 1
                · (clear hSw; first | (go_simp; done) | (go_simp; with_reducible rfl))
                try go_frame
                refine wpAnyH_ready (rs := [6, 10]) (by kernel_rfl) (by simp) ?_
                refine AllReadyH.cons (o := _) (by simp only [List.getElem?_toArray, List.getElem?_cons_succ, List.getElem?_cons_zero]; rfl) (fun KX hKX => ?_) ?_
                · clear hHeld
                  have hy := HS.out.row.2.1
                  go_simp
                  clear hy
                  refine hKX.out _ _ (by first | exact HS.out.held | exact HH.out) (fun hHeld => ?_)
                  clear hKX KX
                  try go_frame
                  refine wpAnyH_ready (rs := [10]) (by kernel_rfl) (by simp) ?_
                  refine AllReadyH.cons (o := _) (by simp only [List.getElem?_toArray, List.getElem?_cons_succ, List.getElem?_cons_zero]; rfl) (fun KX hKX => ?_) AllReadyH.nil
                  clear hHeld
                  go_simp
                  refine (method_l _ _ _ _ _).mono ?_
                  rintro e wx ⟨rfl, hbx⟩
                  replace HS := Lib.hid (HS.out.below hbx)
                  have HBx := Lib.hid hbx
                  clear hbx
                  refine hKX.out _ _ (by first | exact HS.out.held | exact HH.out) (fun hHeld => ?_)
                  clear hKX KX
                  try go_frame
                  refine wpAnyH_ready (rs := [11]) (by kernel_rfl) (by simp) ?_
                  refine AllReadyH.cons (o := _) (by simp only [List.getElem?_toArray, List.getElem?_cons_succ, List.getElem?_cons_zero]; rfl) (fun KX hKX => ?_) AllReadyH.nil
                  clear hHeld
                  go_simp
                  have hsrc := Lib.hid (rdX_lit1 (sz := 9) (c := flC) (fun _ => rfl) wx (mthV nm false ab 5) #[.string nm, .slice none 0 0, .int .i64 5, .string ⟨#[]⟩, .bool false, .bool ab, .int .i64 0, .slice none 0 0, .slice none 0 0] 42 rfl)
                  replace HS := Lib.hid (HS.out.below (below_alR wx (.cells #[.string nm, .slice none 0 0, .int .i64 5, .string ⟨#[]⟩, .bool false, .bool ab, .int .i64 0, .slice none 0 0, .slice none 0 0] 42)))
                  have HBy := Lib.hid (HBx.out.trans ((below_alR wx (.cells #[.string nm, .slice none 0 0, .int .i64 5, .string ⟨#[]⟩, .bool false, .bool ab, .int .i64 0, .slice none 0 0, .slice none 0 0] 42)).mono HBx.out.size))
                  refine hKX.out _ _ (by first | exact HS.out.held | exact HH.out) (fun hHeld => ?_)
                  clear hKX KX
                  try go_frame
                  refine wpAnyH_ready (rs := [12]) (by kernel_rfl) (by simp) ?_
                  refine AllReadyH.cons (o := _) (by simp only [List.getElem?_toArray, List.getElem?_cons_succ, List.getElem?_cons_zero]; rfl) (fun KX hKX => ?_) AllReadyH.nil
                  clear hHeld
                  refine step_appM inf_mth shape_fl (by rfl) _ _ (by rfl) B _ L0 (by rfl) HS.out.2.1 _ 0 1 1 [mthV nm false ab 5] (by rfl) hsrc.out (by have := HL0.out; simp; omega) (by have := HBB.out; have := HBy.out.size; simp at this; simp; omega) ?_
                  intro v6 w6 ho6 hg6 hl6
                  obtain ⟨e1, e2, e3, hM6, hB6⟩ := HS.out.app0 ho6 hg6 hl6
                  have HH := Lib.hid (HS.out.held6 hg6 (fun k e => ((HS.out.2.1).lt k e).1))
                  obtain ⟨pq, nq, cq, hv6⟩ := ho6.slice
                  subst hv6
                  have HM6 := Lib.hid hM6
                  have HB6 := Lib.hid ((HBy.out.mono (by have := HGB.out; have := HBB.out; simp; omega)).trans hB6)
                  clear hM6 hB6 ho6 hg6 hl6 hsrc
                  refine hKX.out _ _ (by first | exact HS.out.held | exact HH.out) (fun hHeld => ?_)
                  clear hKX KX
                  try go_frame
                  refine wpAnyH_take (i := 13) (oi := _) (v := ?_) (by simp only [List.getElem?_toArray, List.getElem?_cons_succ, List.getElem?_cons_zero]; rfl) (by kernel_rfl) (by kernel_rfl) (by kernel_rfl) (by intro _ _ _ h; exact h) (Or.inl ⟨by rfl, fun W hSw => ?_⟩) hHeld ?_
                  rotate_left 1
                  · (clear hSw; first | (go_simp; done) | (go_simp; with_reducible rfl))
                  try go_frame
                  refine wpAnyH_take (i := 14) (oi := _) (v := ?_) (by simp only [List.getElem?_toArray, List.getElem?_cons_succ, List.getElem?_cons_zero]; rfl) (by kernel_rfl) (by kernel_rfl) (by kernel_rfl) (by intro _ _ _ h; exact h) (Or.inl ⟨by rfl, fun W hSw => ?_⟩) hHeld ?_
                  rotate_left 1
                  · (clear hSw; first | (go_simp; done) | (go_simp; with_reducible rfl))
                  try go_frame
                  refine wpAnyH_ready (rs := [15]) (by kernel_rfl) (by simp) ?_
                  refine AllReadyH.cons (o := _) (by simp only [List.getElem?_toArray, List.getElem?_cons_succ, List.getElem?_cons_zero]; rfl) (fun KX hKX => ?_) AllReadyH.nil
                  clear hHeld
                  go_simp
                  replace HS := HM6
                  clear e1 e2 e3
                  refine hKX.out _ _ (by first | exact HS.out.held | exact HH.out) (fun hHeld => ?_)
                  clear hKX KX
                  try go_frame
                  refine wpAnyH_done (by kernel_rfl) ?_ _
                  obtain ⟨W7, hW7⟩ : ∃ x, x = w6.setCell ⟨gc, 5, none⟩ (.slice pq nq cq) := ⟨_, rfl⟩
                  rw [← hW7] at HM6 HB6 ⊢
                  clear hW7 hHeld HS
                  go_wp2_with fail
                  go_meet
                  case rel => exact ⟨.slice pq nq cq, by rw [HLL.out]; exact HM6, Lib.hid (HB3.out.drew.trans (HB6.out.mono HGB.out.2)), Lib.hid (Nat.le_trans HV3.out HB6.out.size)⟩
                refine AllReadyH.cons (o := _) (by simp only [List.getElem?_toArray, List.getElem?_cons_succ, List.getElem?_cons_zero]; rfl) (fun KX hKX => ?_) AllReadyH.nil
                clear hHeld
                go_simp
                refine (method_l _ _ _ _ _).mono ?_
                rintro e wx ⟨rfl, hbx⟩
                replace HS := Lib.hid (HS.out.below hbx)
                have HBx := Lib.hid hbx
                clear hbx
                refine hKX.out _ _ (by first | exact HS.out.held | exact HH.out) (fun hHeld => ?_)
                clear hKX KX
                try go_frame
                refine wpAnyH_ready (rs := [6, 11]) (by kernel_rfl) (by simp) ?_
                refine AllReadyH.cons (o := _) (by simp only [List.getElem?_toArray, List.getElem?_cons_succ, List.getElem?_cons_zero]; rfl) (fun KX hKX => ?_) ?_
                · clear hHeld
                  have hy := HS.out.row.2.1
                  go_simp
                  clear hy
                  refine hKX.out _ _ (by first | exact HS.out.held | exact HH.out) (fun hHeld => ?_)
                  clear hKX KX
                  try go_frame
                  refine wpAnyH_ready (rs := [11]) (by kernel_rfl) (by simp) ?_
                  refine AllReadyH.cons (o := _) (by simp only [List.getElem?_toArray, List.getElem?_cons_succ, List.getElem?_cons_zero]; rfl) (fun KX hKX => ?_) AllReadyH.nil
                  clear hHeld
                  go_simp
                  have hsrc := Lib.hid (rdX_lit1 (sz := 9) (c := flC) (fun _ => rfl) wx (mthV nm false ab 5) #[.string nm, .slice none 0 0, .int .i64 5, .string ⟨#[]⟩, .bool false, .bool ab, .int .i64 0, .slice none 0 0, .slice none 0 0] 42 rfl)
                  replace HS := Lib.hid (HS.out.below (below_alR wx (.cells #[.string nm, .slice none 0 0, .int .i64 5, .string ⟨#[]⟩, .bool false, .bool ab, .int .i64 0, .slice none 0 0, .slice none 0 0] 42)))
                  have HBy := Lib.hid (HBx.out.trans ((below_alR wx (.cells #[.string nm, .slice none 0 0, .int .i64 5, .string ⟨#[]⟩, .bool false, .bool ab, .int .i64 0, .slice none 0 0, .slice none 0 0] 42)).mono HBx.out.size))
                  refine hKX.out _ _ (by first | exact HS.out.held | exact HH.out) (fun hHeld => ?_)
                  clear hKX KX
                  try go_frame
                  refine wpAnyH_ready (rs := [12]) (by kernel_rfl) (by simp) ?_
                  refine AllReadyH.cons (o := _) (by simp only [List.getElem?_toArray, List.getElem?_cons_succ, List.getElem?_cons_zero]; rfl) (fun KX hKX => ?_) AllReadyH.nil
                  clear hHeld
                  refine step_appM inf_mth shape_fl (by rfl) _ _ (by rfl) B _ L0 (by rfl) HS.out.2.1 _ 0 1 1 [mthV nm false ab 5] (by rfl) hsrc.out (by have := HL0.out; simp; omega) (by have := HBB.out; have := HBy.out.size; simp at this; simp; omega) ?_
                  intro v6 w6 ho6 hg6 hl6
                  obtain ⟨e1, e2, e3, hM6, hB6⟩ := HS.out.app0 ho6 hg6 hl6
                  have HH := Lib.hid (HS.out.held6 hg6 (fun k e => ((HS.out.2.1).lt k e).1))
                  obtain ⟨pq, nq, cq, hv6⟩ := ho6.slice
                  subst hv6
                  have HM6 := Lib.hid hM6
                  have HB6 := Lib.hid ((HBy.out.mono (by have := HGB.out; have := HBB.out; simp; omega)).trans hB6)
                  clear hM6 hB6 ho6 hg6 hl6 hsrc
                  refine hKX.out _ _ (by first | exact HS.out.held | exact HH.out) (fun hHeld => ?_)
                  clear hKX KX
                  try go_frame
                  refine wpAnyH_take (i := 13) (oi := _) (v := ?_) (by simp only [List.getElem?_toArray, List.getElem?_cons_succ, List.getElem?_cons_zero]; rfl) (by kernel_rfl) (by kernel_rfl) (by kernel_rfl) (by intro _ _ _ h; exact h) (Or.inl ⟨by rfl, fun W hSw => ?_⟩) hHeld ?_
                  rotate_left 1
                  · (clear hSw; first | (go_simp; done) | (go_simp; with_reducible rfl))
                  try go_frame
                  refine wpAnyH_take (i := 14) (oi := _) (v := ?_) (by simp only [List.getElem?_toArray, List.getElem?_cons_succ, List.getElem?_cons_zero]; rfl) (by kernel_rfl) (by kernel_rfl) (by kernel_rfl) (by intro _ _ _ h; exact h) (Or.inl ⟨by rfl, fun W hSw => ?_⟩) hHeld ?_
                  rotate_left 1
                  · (clear hSw; first | (go_simp; done) | (go_simp; with_reducible rfl))
                  try go_frame
                  refine wpAnyH_ready (rs := [15]) (by kernel_rfl) (by simp) ?_
                  refine AllReadyH.cons (o := _) (by simp only [List.getElem?_toArray, List.getElem?_cons_succ, List.getElem?_cons_zero]; rfl) (fun KX hKX => ?_) AllReadyH.nil
                  clear hHeld
                  go_simp
                  replace HS := HM6
                  clear e1 e2 e3
                  refine hKX.out _ _ (by first | exact HS.out.held | exact HH.out) (fun hHeld => ?_)
                  clear hKX KX
                  try go_frame
                  refine wpAnyH_done (by kernel_rfl) ?_ _
                  obtain ⟨W7, hW7⟩ : ∃ x, x = w6.setCell ⟨gc, 5, none⟩ (.slice pq nq cq) := ⟨_, rfl⟩
                  rw [← hW7] at HM6 HB6 ⊢
                  clear hW7 hHeld HS
                  go_wp2_with fail
                  go_meet
                  case rel => exact ⟨.slice pq nq cq, by rw [HLL.out]; exact HM6, Lib.hid (HB3.out.drew.trans (HB6.out.mono HGB.out.2)), Lib.hid (Nat.le_trans HV3.out HB6.out.size)⟩
                refine AllReadyH.cons (o := _) (by simp only [List.getElem?_toArray, List.getElem?_cons_succ, List.getElem?_cons_zero]; rfl) (fun KX hKX => ?_) AllReadyH.nil
                clear hHeld
                go_simp
                have hsrc := Lib.hid (rdX_lit1 (sz := 9) (c := flC) (fun _ => rfl) wx (mthV nm false ab 5) #[.string nm, .slice none 0 0, .int .i64 5, .string ⟨#[]⟩, .bool false, .bool ab, .int .i64 0, .slice none 0 0, .slice none 0 0] 42 rfl)
                replace HS := Lib.hid (HS.out.below (below_alR wx (.cells #[.string nm, .slice none 0 0, .int .i64 5, .string ⟨#[]⟩, .bool false, .bool ab, .int .i64 0, .slice none 0 0, .slice none 0 0] 42)))
                have HBy := Lib.hid (HBx.out.trans ((below_alR wx (.cells #[.string nm, .slice none 0 0, .int .i64 5, .string ⟨#[]⟩, .bool false, .bool ab, .int .i64 0, .slice none 0 0, .slice none 0 0] 42)).mono HBx.out.size))
                refine hKX.out _ _ (by first | exact HS.out.held | exact HH.out) (fun hHeld => ?_)
                clear hKX KX
                try go_frame
                refine wpAnyH_ready (rs := [6]) (by kernel_rfl) (by simp) ?_
                refine AllReadyH.cons (o := _) (by simp only [List.getElem?_toArray, List.getElem?_cons_succ, List.getElem?_cons_zero]; rfl) (fun KX hKX => ?_) AllReadyH.nil
                clear hHeld
                have hy := HS.out.row.2.1
                go_simp
                clear hy
                refine hKX.out _ _ (by first | exact HS.out.held | exact HH.out) (fun hHeld => ?_)
                clear hKX KX
                try go_frame
                refine wpAnyH_ready (rs := [12]) (by kernel_rfl) (by simp) ?_
                refine AllReadyH.cons (o := _) (by simp only [List.getElem?_toArray, List.getElem?_cons_succ, List.getElem?_cons_zero]; rfl) (fun KX hKX => ?_) AllReadyH.nil
                clear hHeld
                refine step_appM inf_mth shape_fl (by rfl) _ _ (by rfl) B _ L0 (by rfl) HS.out.2.1 _ 0 1 1 [mthV nm false ab 5] (by rfl) hsrc.out (by have := HL0.out; simp; omega) (by have := HBB.out; have := HBy.out.size; simp at this; simp; omega) ?_
                intro v6 w6 ho6 hg6 hl6
                obtain ⟨e1, e2, e3, hM6, hB6⟩ := HS.out.app0 ho6 hg6 hl6
                have HH := Lib.hid (HS.out.held6 hg6 (fun k e => ((HS.out.2.1).lt k e).1))
                obtain ⟨pq, nq, cq, hv6⟩ := ho6.slice
                subst hv6
                have HM6 := Lib.hid hM6
                have HB6 := Lib.hid ((HBy.out.mono (by have := HGB.out; have := HBB.out; simp; omega)).trans hB6)
                clear hM6 hB6 ho6 hg6 hl6 hsrc
                refine hKX.out _ _ (by first | exact HS.out.held | exact HH.out) (fun hHeld => ?_)
                clear hKX KX
                try go_frame
                refine wpAnyH_take (i := 13) (oi := _) (v := ?_) (by simp only [List.getElem?_toArray, List.getElem?_cons_succ, List.getElem?_cons_zero]; rfl) (by kernel_rfl) (by kernel_rfl) (by kernel_rfl) (by intro _ _ _ h; exact h) (Or.inl ⟨by rfl, fun W hSw => ?_⟩) hHeld ?_
                rotate_left 1
                · (clear hSw; first | (go_simp; done) | (go_simp; with_reducible rfl))
                try go_frame
                refine wpAnyH_take (i := 14) (oi := _) (v := ?_) (by simp only [List.getElem?_toArray, List.getElem?_cons_succ, List.getElem?_cons_zero]; rfl) (by kernel_rfl) (by kernel_rfl) (by kernel_rfl) (by intro _ _ _ h; exact h) (Or.inl ⟨by rfl, fun W hSw => ?_⟩) hHeld ?_
                rotate_left 1
                · (clear hSw; first | (go_simp; done) | (go_simp; with_reducible rfl))
                try go_frame
                refine wpAnyH_ready (rs := [15]) (by kernel_rfl) (by simp) ?_
                refine AllReadyH.cons (o := _) (by simp only [List.getElem?_toArray, List.getElem?_cons_succ, List.getElem?_cons_zero]; rfl) (fun KX hKX => ?_) AllReadyH.nil
                clear hHeld
                go_simp
                replace HS := HM6
                clear e1 e2 e3
                refine hKX.out _ _ (by first | exact HS.out.held | exact HH.out) (fun hHeld => ?_)
                clear hKX KX
                try go_frame
                refine wpAnyH_done (by kernel_rfl) ?_ _
                obtain ⟨W7, hW7⟩ : ∃ x, x = w6.setCell ⟨gc, 5, none⟩ (.slice pq nq cq) := ⟨_, rfl⟩
                rw [← hW7] at HM6 HB6 ⊢
                clear hW7 hHeld HS
                go_wp2_with fail
                go_meet
                case rel => exact ⟨.slice pq nq cq, by rw [HLL.out]; exact HM6, Lib.hid (HB3.out.drew.trans (HB6.out.mono HGB.out.2)), Lib.hid (Nat.le_trans HV3.out HB6.out.size)⟩
              · have h1' : ¬ (1 : Int) < (x : Int) := by omega
                have HLL : Hid (l0M n x = []) := Lib.hid (if_neg h1)
                go_wp2_with fail
                go_meet
                case rel => exact ⟨v0, by rw [HLL.out, List.append_nil]; exact HM3, HB3, HV3⟩
            case rest =>
              obtain ⟨u0, HM4, HB4, HV4⟩ := hcut
              clear HM3 HB3 HV3
              obtain ⟨w4, hw4⟩ : ∃ x, x = wc := ⟨_, rfl⟩
              subst hw4
              obtain ⟨R0, hR0⟩ : ∃ l, L0 ++ l0M n x = l := ⟨_, rfl⟩
              rw [hR0] at HM4
              have HR0 := Lib.hid hR0
              clear hR0
              go_upto_if 72 with fail
              go_cut [] from 71 to 85 (fun wx => ∃ u1, Hid (MsR wx B xb gc gi KQ u0 u1 v2 u10 R0 (L1 ++ l1M n y) L2 LW) ∧ Hid (Below w.heap.size w wx) ∧ Hid (B ≤ wx.heap.size))
              case first =>
                by_cases h1 : y = 1
                · have h1' : ((y : Int) == 1) = true := by rw [h1]; rfl
                  have HLL : Hid (l1M n y = [mthV nm false false 5]) := Lib.hid (by unfold l1M; rw [if_pos h1, HNM.out])
                  have HS : Hid (MsR w4.drew B xb gc gi KQ u0 v1 v2 u10 R0 L1 L2 LW) := Lib.hid (HM4.out.below (Below.refl _ _).drew)
                  clear h1
                  have HBB := HV4
                  go_upto_region 13 with fail
                  refine wp_region_held_drew (S := fun W => W.cell? ⟨xb, 0, none⟩ = some (.slice (some ⟨gc, 0, none⟩) 3 3)) (by kernel_rfl) (by first | exact HS.out.held | exact HH.out) (fun hHeld => ?_)
                  refine wpAnyH_take (i := 0) (oi := _) (v := ?_) (by simp only [List.getElem?_toArray, List.getElem?_cons_zero]; rfl) (by kernel_rfl) (by kernel_rfl) (by kernel_rfl) (by intro _ _ _ h; exact h) (Or.inl ⟨by rfl, fun W hSw => ?_⟩) hHeld ?_
                  rotate_left 1
                  · (clear hSw; first | (go_simp; done) | (go_simp; with_reducible rfl))
                  try go_frame
                  refine wpAnyH_take (i := 1) (oi := _) (v := ?_) (by simp only [List.getElem?_toArray, List.getElem?_cons_succ, List.getElem?_cons_zero]; rfl) (by kernel_rfl) (by kernel_rfl) (by kernel_rfl) (by intro _ _ _ h; exact h) (Or.inl ⟨by rfl, fun W hSw => ?_⟩) hHeld ?_
                  rotate_left 1
                  · (try dsimp only at hSw); first | (go_simp; done) | (go_simp; with_reducible rfl)
                  try go_frame
                  refine wpAnyH_take (i := 2) (oi := _) (v := ?_) (by simp only [List.getElem?_toArray, List.getElem?_cons_succ, List.getElem?_cons_zero]; rfl) (by kernel_rfl) (by kernel_rfl) (by kernel_rfl) (by intro _ _ _ h; exact h) (Or.inl ⟨by rfl, fun W hSw => ?_⟩) hHeld ?_
                  rotate_left 1
                  · (clear hSw; first | (go_simp; done) | (go_simp; with_reducible rfl))
                  try go_frame
                  refine wpAnyH_take (i := 3) (oi := _) (v := ?_) (by simp only [List.getElem?_toArray, List.getElem?_cons_succ, List.getElem?_cons_zero]; rfl) (by kernel_rfl) (by kernel_rfl) (by kernel_rfl) (by intro _ _ _ h; exact h) (Or.inl ⟨by rfl, fun W hSw => ?_⟩) hHeld ?_
                  rotate_left 1
                  · (try dsimp only at hSw); first | (go_simp; done) | (go_simp; with_reducible rfl)
                  try go_frame
                  refine wpAnyH_take (i := 4) (oi := _) (v := ?_) (by simp only [List.getElem?_toArray, List.getElem?_cons_succ, List.getElem?_cons_zero]; rfl) (by kernel_rfl) (by kernel_rfl) (by kernel_rfl) (by intro _ _ _ h; exact h) (Or.inl ⟨by rfl, fun W hSw => ?_⟩) hHeld ?_
                  rotate_left 1
                  · (clear hSw; first | (go_simp; done) | (go_simp; with_reducible rfl))
                  try go_frame
                  refine wpAnyH_take (i := 5) (oi := _) (v := ?_) (by simp only [List.getElem?_toArray, List.getElem?_cons_succ, List.getElem?_cons_zero]; rfl) (by kernel_rfl) (by kernel_rfl) (by kernel_rfl) (by intro _ _ _ h; exact h) (Or.inl ⟨by rfl, fun W hSw => ?_⟩) hHeld ?_
                  rotate_left 1
                  · (clear hSw; first | (go_simp; done) | (go_simp; with_reducible rfl))
                  try go_frame
                  refine wpAnyH_take (i := 7) (oi := _) (v := ?_) (by simp only [List.getElem?_toArray, List.getElem?_cons_succ, List.getElem?_cons_zero]; rfl) (by kernel_rfl) (by kernel_rfl) (by kernel_rfl) (by intro _ _ _ h; exact h) (Or.inl ⟨by rfl, fun W hSw => ?_⟩) hHeld ?_
                  rotate_left 1
                  · (clear hSw; first | (go_simp; done) | (go_simp; with_reducible rfl))
                  try go_frame
                  refine wpAnyH_ready (rs := [6, 8]) (by kernel_rfl) (by simp) ?_
                  refine AllReadyH.cons (o := _) (by simp only [List.getElem?_toArray, List.getElem?_cons_succ, List.getElem?_cons_zero]; rfl) (fun KX hKX => ?_) ?_
                  · clear hHeld
                    have hy := HS.out.row.2.2.1
                    go_simp
                    clear hy
                    refine hKX.out _ _ (by first | exact HS.out.held | exact HH.out) (fun hHeld => ?_)
                    clear hKX KX
                    try go_frame
                    refine wpAnyH_ready (rs := [8]) (by kernel_rfl) (by simp) ?_
                    refine AllReadyH.cons (o := _) (by simp only [List.getElem?_toArray, List.getElem?_cons_succ, List.getElem?_cons_zero]; rfl) (fun KX hKX => ?_) AllReadyH.nil
                    clear hHeld
                    go_simp
                    refine (method_l _ _ _ _ _).mono ?_
                    rintro e wx ⟨rfl, hbx⟩
                    replace HS := Lib.hid (HS.out.below hbx)
                    have HBx := Lib.hid hbx
                    clear hbx
                    refine hKX.out _ _ (by first | exact HS.out.held | exact HH.out) (fun hHeld => ?_)
                    clear hKX KX
                    try go_frame
                    refine wpAnyH_ready (rs := [9]) (by kernel_rfl) (by simp) ?_
                    refine AllReadyH.cons (o := _) (by simp only [List.getElem?_toArray, List.getElem?_cons_succ, List.getElem?_cons_zero]; rfl) (fun KX hKX => ?_) AllReadyH.nil
                    clear hHeld
                    go_simp
                    have hsrc := Lib.hid (rdX_lit1 (sz := 9) (c := flC) (fun _ => rfl) wx (mthV nm false false 5) #[.string nm, .slice none 0 0, .int .i64 5, .string ⟨#[]⟩, .bool false, .bool false, .int .i64 0, .slice none 0 0, .slice none 0 0] 42 rfl)
                    replace HS := Lib.hid (HS.out.below (below_alR wx (.cells #[.string nm, .slice none 0 0, .int .i64 5, .string ⟨#[]⟩, .bool false, .bool false, .int .i64 0, .slice none 0 0, .slice none 0 0] 42)))
                    have HBy := Lib.hid (HBx.out.trans ((below_alR wx (.cells #[.string nm, .slice none 0 0, .int .i64 5, .string ⟨#[]⟩, .bool false, .bool false, .int .i64 0, .slice none 0 0, .slice none 0 0] 42)).mono HBx.out.size))
                    refine hKX.out _ _ (by first | exact HS.out.held | exact HH.out) (fun hHeld => ?_)
                    clear hKX KX
                    try go_frame
                    refine wpAnyH_ready (rs := [10]) (by kernel_rfl) (by simp) ?_
                    refine AllReadyH.cons (o := _) (by simp only [List.getElem?_toArray, List.getElem?_cons_succ, List.getElem?_cons_zero]; rfl) (fun KX hKX => ?_) AllReadyH.nil
                    clear hHeld
                    refine step_appM inf_mth shape_fl (by rfl) _ _ (by rfl) B _ L1 (by rfl) HS.out.2.2.1 _ 0 1 1 [mthV nm false false 5] (by rfl) hsrc.out (by have := HL1.out; simp; omega) (by have := HBB.out; have := HBy.out.size; simp at this; simp; omega) ?_
                    intro v6 w6 ho6 hg6 hl6
                    obtain ⟨e1, e2, e3, hM6, hB6⟩ := HS.out.app1 ho6 hg6 hl6
                    have HH := Lib.hid (HS.out.held6 hg6 (fun k e => ((HS.out.2.2.1).lt k e).1))
                    obtain ⟨pq, nq, cq, hv6⟩ := ho6.slice
                    subst hv6
                    have HM6 := Lib.hid hM6
                    have HB6 := Lib.hid ((HBy.out.mono (by have := HGB.out; have := HBB.out; simp; omega)).trans hB6)
                    clear hM6 hB6 ho6 hg6 hl6 hsrc
                    refine hKX.out _ _ (by first | exact HS.out.held | exact HH.out) (fun hHeld => ?_)
                    clear hKX KX
                    try go_frame
                    refine wpAnyH_take (i := 11) (oi := _) (v := ?_) (by simp only [List.getElem?_toArray, List.getElem?_cons_succ, List.getElem?_cons_zero]; rfl) (by kernel_rfl) (by kernel_rfl) (by kernel_rfl) (by intro _ _ _ h; exact h) (Or.inl ⟨by rfl, fun W hSw => ?_⟩) hHeld ?_
                    rotate_left 1
                    · (clear hSw; first | (go_simp; done) | (go_simp; with_reducible rfl))
                    try go_frame
                    refine wpAnyH_take (i := 12) (oi := _) (v := ?_) (by simp only [List.getElem?_toArray, List.getElem?_cons_succ, List.getElem?_cons_zero]; rfl) (by kernel_rfl) (by kernel_rfl) (by kernel_rfl) (by intro _ _ _ h; exact h) (Or.inl ⟨by rfl, fun W hSw => ?_⟩) hHeld ?_
                    rotate_left 1
                    · (clear hSw; first | (go_simp; done) | (go_simp; with_reducible rfl))
                    try go_frame
                    refine wpAnyH_ready (rs := [13]) (by kernel_rfl) (by simp) ?_
                    refine AllReadyH.cons (o := _) (by simp only [List.getElem?_toArray, List.getElem?_cons_succ, List.getElem?_cons_zero]; rfl) (fun KX hKX => ?_) AllReadyH.nil
                    clear hHeld
                    go_simp
                    replace HS := HM6
                    clear e1 e2 e3
                    refine hKX.out _ _ (by first | exact HS.out.held | exact HH.out) (fun hHeld => ?_)
                    clear hKX KX
                    try go_frame
                    refine wpAnyH_done (by kernel_rfl) ?_ _
                    obtain ⟨W7, hW7⟩ : ∃ x, x = w6.setCell ⟨gc, 11, none⟩ (.slice pq nq cq) := ⟨_, rfl⟩
                    rw [← hW7] at HM6 HB6 ⊢
                    clear hW7 hHeld HS
                    go_wp2_with fail
                    go_meet
                    case rel => exact ⟨.slice pq nq cq, by rw [HLL.out]; exact HM6, Lib.hid (HB4.out.drew.trans (HB6.out.mono HGB.out.2)), Lib.hid (Nat.le_trans HV4.out HB6.out.size)⟩
                  refine AllReadyH.cons (o := _) (by simp only [List.getElem?_toArray, List.getElem?_cons_succ, List.getElem?_cons_zero]; rfl) (fun KX hKX => ?_) AllReadyH.nil
                  clear hHeld
                  go_simp
                  refine (method_l _ _ _ _ _).mono ?_
                  rintro e wx ⟨rfl, hbx⟩
                  replace HS := Lib.hid (HS.out.below hbx)
                  have HBx := Lib.hid hbx
                  clear hbx
                  refine hKX.out _ _ (by first | exact HS.out.held | exact HH.out) (fun hHeld => ?_)
                  clear hKX KX
                  try go_frame
                  refine wpAnyH_ready (rs := [6, 9]) (by kernel_rfl) (by simp) ?_
                  refine AllReadyH.cons (o := _) (by simp only [List.getElem?_toArray, List.getElem?_cons_succ, List.getElem?_cons_zero]; rfl) (fun KX hKX => ?_) ?_
                  · clear hHeld
                    have hy := HS.out.row.2.2.1
                    go_simp
                    clear hy
                    refine hKX.out _ _ (by first | exact HS.out.held | exact HH.out) (fun hHeld => ?_)
                    clear hKX KX
                    try go_frame
                    refine wpAnyH_ready (rs := [9]) (by kernel_rfl) (by simp) ?_
                    refine AllReadyH.cons (o := _) (by simp only [List.getElem?_toArray, List.getElem?_cons_succ, List.getElem?_cons_zero]; rfl) (fun KX hKX => ?_) AllReadyH.nil
                    clear hHeld
                    go_simp
                    have hsrc := Lib.hid (rdX_lit1 (sz := 9) (c := flC) (fun _ => rfl) wx (mthV nm false false 5) #[.string nm, .slice none 0 0, .int .i64 5, .string ⟨#[]⟩, .bool false, .bool false, .int .i64 0, .slice none 0 0, .slice none 0 0] 42 rfl)
                    replace HS := Lib.hid (HS.out.below (below_alR wx (.cells #[.string nm, .slice none 0 0, .int .i64 5, .string ⟨#[]⟩, .bool false, .bool false, .int .i64 0, .slice none 0 0, .slice none 0 0] 42)))
                    have HBy := Lib.hid (HBx.out.trans ((below_alR wx (.cells #[.string nm, .slice none 0 0, .int .i64 5, .string ⟨#[]⟩, .bool false, .bool false, .int .i64 0, .slice none 0 0, .slice none 0 0] 42)).mono HBx.out.size))
                    refine hKX.out _ _ (by first | exact HS.out.held | exact HH.out) (fun hHeld => ?_)
                    clear hKX KX
                    try go_frame
                    refine wpAnyH_ready (rs := [10]) (by kernel_rfl) (by simp) ?_
                    refine AllReadyH.cons (o := _) (by simp only [List.getElem?_toArray, List.getElem?_cons_succ, List.getElem?_cons_zero]; rfl) (fun KX hKX => ?_) AllReadyH.nil
                    clear hHeld
                    refine step_appM inf_mth shape_fl (by rfl) _ _ (by rfl) B _ L1 (by rfl) HS.out.2.2.1 _ 0 1 1 [mthV nm false false 5] (by rfl) hsrc.out (by have := HL1.out; simp; omega) (by have := HBB.out; have := HBy.out.size; simp at this; simp; omega) ?_
                    intro v6 w6 ho6 hg6 hl6
                    obtain ⟨e1, e2, e3, hM6, hB6⟩ := HS.out.app1 ho6 hg6 hl6
                    have HH := Lib.hid (HS.out.held6 hg6 (fun k e => ((HS.out.2.2.1).lt k e).1))
                    obtain ⟨pq, nq, cq, hv6⟩ := ho6.slice
                    subst hv6
                    have HM6 := Lib.hid hM6
                    have HB6 := Lib.hid ((HBy.out.mono (by have := HGB.out; have := HBB.out; simp; omega)).trans hB6)
                    clear hM6 hB6 ho6 hg6 hl6 hsrc
                    refine hKX.out _ _ (by first | exact HS.out.held | exact HH.out) (fun hHeld => ?_)
                    clear hKX KX
                    try go_frame
                    refine wpAnyH_take (i := 11) (oi := _) (v := ?_) (by simp only [List.getElem?_toArray, List.getElem?_cons_succ, List.getElem?_cons_zero]; rfl) (by kernel_rfl) (by kernel_rfl) (by kernel_rfl) (by intro _ _ _ h; exact h) (Or.inl ⟨by rfl, fun W hSw => ?_⟩) hHeld ?_
                    rotate_left 1
                    · (clear hSw; first | (go_simp; done) | (go_simp; with_reducible rfl))
                    try go_frame
                    refine wpAnyH_take (i := 12) (oi := _) (v := ?_) (by simp only [List.getElem?_toArray, List.getElem?_cons_succ, List.getElem?_cons_zero]; rfl) (by kernel_rfl) (by kernel_rfl) (by kernel_rfl) (by intro _ _ _ h; exact h) (Or.inl ⟨by rfl, fun W hSw => ?_⟩) hHeld ?_
                    rotate_left 1
                    · (clear hSw; first | (go_simp; done) | (go_simp; with_reducible rfl))
                    try go_frame
                    refine wpAnyH_ready (rs := [13]) (by kernel_rfl) (by simp) ?_
                    refine AllReadyH.cons (o := _) (by simp only [List.getElem?_toArray, List.getElem?_cons_succ, List.getElem?_cons_zero]; rfl) (fun KX hKX => ?_) AllReadyH.nil
                    clear hHeld
                    go_simp
                    replace HS := HM6
                    clear e1 e2 e3
                    refine hKX.out _ _ (by first | exact HS.out.held | exact HH.out) (fun hHeld => ?_)
                    clear hKX KX
                    try go_frame
                    refine wpAnyH_done (by kernel_rfl) ?_ _
                    obtain ⟨W7, hW7⟩ : ∃ x, x = w6.setCell ⟨gc, 11, none⟩ (.slice pq nq cq) := ⟨_, rfl⟩
                    rw [← hW7] at HM6 HB6 ⊢
                    clear hW7 hHeld HS
                    go_wp2_with fail
                    go_meet
                    case rel => exact ⟨.slice pq nq cq, by rw [HLL.out]; exact HM6, Lib.hid (HB4.out.drew.trans (HB6.out.mono HGB.out.2)), Lib.hid (Nat.le_trans HV4.out HB6.out.size)⟩
                  refine AllReadyH.cons (o := _) (by simp only [List.getElem?_toArray, List.getElem?_cons_succ, List.getElem?_cons_zero]; rfl) (fun KX hKX => ?_) AllReadyH.nil
                  clear hHeld
                  go_simp
                  have hsrc := Lib.hid (rdX_lit1 (sz := 9) (c := flC) (fun _ => rfl) wx (mthV nm false false 5) #[.string nm, .slice none 0 0, .int .i64 5, .string ⟨#[]⟩, .bool false, .bool false, .int .i64 0, .slice none 0 0, .slice none 0 0] 42 rfl)
                  replace HS := Lib.hid (HS.out.below (below_alR wx (.cells #[.string nm, .slice none 0 0, .int .i64 5, .string ⟨#[]⟩, .bool false, .bool false, .int .i64 0, .slice none 0 0, .slice none 0 0] 42)))
                  have HBy := Lib.hid (HBx.out.trans ((below_alR wx (.cells #[.string nm, .slice none 0 0, .int .i64 5, .string ⟨#[]⟩, .bool false, .bool false, .int .i64 0, .slice none 0 0, .slice none 0 0] 42)).mono HBx.out.size))
                  refine hKX.out _ _ (by first | exact HS.out.held | exact HH.out) (fun hHeld => ?_)
                  clear hKX KX
                  try go_frame
                  refine wpAnyH_ready (rs := [6]) (by kernel_rfl) (by simp) ?_
                  refine AllReadyH.cons (o := _) (by simp only [List.getElem?_toArray, List.getElem?_cons_succ, List.getElem?_cons_zero]; rfl) (fun KX hKX => ?_) AllReadyH.nil
                  clear hHeld
                  have hy := HS.out.row.2.2.1
                  go_simp
                  clear hy
                  refine hKX.out _ _ (by first | exact HS.out.held | exact HH.out) (fun hHeld => ?_)
                  clear hKX KX
                  try go_frame
                  refine wpAnyH_ready (rs := [10]) (by kernel_rfl) (by simp) ?_
                  refine AllReadyH.cons (o := _) (by simp only [List.getElem?_toArray, List.getElem?_cons_succ, List.getElem?_cons_zero]; rfl) (fun KX hKX => ?_) AllReadyH.nil
                  clear hHeld
                  refine step_appM inf_mth shape_fl (by rfl) _ _ (by rfl) B _ L1 (by rfl) HS.out.2.2.1 _ 0 1 1 [mthV nm false false 5] (by rfl) hsrc.out (by have := HL1.out; simp; omega) (by have := HBB.out; have := HBy.out.size; simp at this; simp; omega) ?_
                  intro v6 w6 ho6 hg6 hl6
                  obtain ⟨e1, e2, e3, hM6, hB6⟩ := HS.out.app1 ho6 hg6 hl6
                  have HH := Lib.hid (HS.out.held6 hg6 (fun k e => ((HS.out.2.2.1).lt k e).1))
                  obtain ⟨pq, nq, cq, hv6⟩ := ho6.slice
                  subst hv6
                  have HM6 := Lib.hid hM6
                  have HB6 := Lib.hid ((HBy.out.mono (by have := HGB.out; have := HBB.out; simp; omega)).trans hB6)
                  clear hM6 hB6 ho6 hg6 hl6 hsrc
                  refine hKX.out _ _ (by first | exact HS.out.held | exact HH.out) (fun hHeld => ?_)
                  clear hKX KX
                  try go_frame
                  refine wpAnyH_take (i := 11) (oi := _) (v := ?_) (by simp only [List.getElem?_toArray, List.getElem?_cons_succ, List.getElem?_cons_zero]; rfl) (by kernel_rfl) (by kernel_rfl) (by kernel_rfl) (by intro _ _ _ h; exact h) (Or.inl ⟨by rfl, fun W hSw => ?_⟩) hHeld ?_
                  rotate_left 1
                  · (clear hSw; first | (go_simp; done) | (go_simp; with_reducible rfl))
                  try go_frame
                  refine wpAnyH_take (i := 12) (oi := _) (v := ?_) (by simp only [List.getElem?_toArray, List.getElem?_cons_succ, List.getElem?_cons_zero]; rfl) (by kernel_rfl) (by kernel_rfl) (by kernel_rfl) (by intro _ _ _ h; exact h) (Or.inl ⟨by rfl, fun W hSw => ?_⟩) hHeld ?_
                  rotate_left 1
                  · (clear hSw; first | (go_simp; done) | (go_simp; with_reducible rfl))
                  try go_frame
                  refine wpAnyH_ready (rs := [13]) (by kernel_rfl) (by simp) ?_
                  refine AllReadyH.cons (o := _) (by simp only [List.getElem?_toArray, List.getElem?_cons_succ, List.getElem?_cons_zero]; rfl) (fun KX hKX => ?_) AllReadyH.nil
                  clear hHeld
                  go_simp
                  replace HS := HM6
                  clear e1 e2 e3
                  refine hKX.out _ _ (by first | exact HS.out.held | exact HH.out) (fun hHeld => ?_)
                  clear hKX KX
                  try go_frame
                  refine wpAnyH_done (by kernel_rfl) ?_ _
                  obtain ⟨W7, hW7⟩ : ∃ x, x = w6.setCell ⟨gc, 11, none⟩ (.slice pq nq cq) := ⟨_, rfl⟩
                  rw [← hW7] at HM6 HB6 ⊢
                  clear hW7 hHeld HS
                  go_wp2_with fail
                  go_meet
                  case rel => exact ⟨.slice pq nq cq, by rw [HLL.out]; exact HM6, Lib.hid (HB4.out.drew.trans (HB6.out.mono HGB.out.2)), Lib.hid (Nat.le_trans HV4.out HB6.out.size)⟩
                · have h1' : ((y : Int) == 1) = false := by simp; omega
                  have HLL : Hid (l1M n y = []) := Lib.hid (if_neg h1)
                  go_wp2_with fail
                  go_meet
                  case rel => exact ⟨v1, by rw [HLL.out, List.append_nil]; exact HM4, HB4, HV4⟩
              case rest =>
                obtain ⟨u1, HM5, HB5, HV5⟩ := hcut
                clear HM4 HB4 HV4
                obtain ⟨w5, hw5⟩ : ∃ x, x = wc := ⟨_, rfl⟩
                subst hw5
                obtain ⟨R1, hR1⟩ : ∃ l, L1 ++ l1M n y = l := ⟨_, rfl⟩
                rw [hR1] at HM5
                have HR1 := Lib.hid hR1
                clear hR1
                go_upto_if 87 with fail
                go_cut [] from 86 to 100 (fun wx => ∃ u2, Hid (MsR wx B xb gc gi KQ u0 u1 u2 u10 R0 R1 (L2 ++ l2M n z) LW) ∧ Hid (Below w.heap.size w wx) ∧ Hid (B ≤ wx.heap.size))
                case first =>
                  by_cases h1 : z = 1
                  · have h1' : ((z : Int) == 1) = true := by rw [h1]; rfl
                    have HLL : Hid (l2M n z = [mthV nm false true 5]) := Lib.hid (by unfold l2M; rw [if_pos h1, HNM.out])
                    have HS : Hid (MsR w5.drew B xb gc gi KQ u0 u1 v2 u10 R0 R1 L2 LW) := Lib.hid (HM5.out.below (Below.refl _ _).drew)
                    clear h1
                    have HBB := HV5
                    go_upto_region 15 with fail
                    refine wp_region_held_drew (S := fun W => W.cell? ⟨xb, 0, none⟩ = some (.slice (some ⟨gc, 0, none⟩) 3 3)) (by kernel_rfl) (by first | exact HS.out.held | exact HH.out) (fun hHeld => ?_)
                    refine wpAnyH_take (i := 0) (oi := _) (v := ?_) (by simp only [List.getElem?_toArray, List.getElem?_cons_zero]; rfl) (by kernel_rfl) (by kernel_rfl) (by kernel_rfl) (by intro _ _ _ h; exact h) (Or.inl ⟨by rfl, fun W hSw => ?_⟩) hHeld ?_
                    rotate_left 1
                    · (clear hSw; first | (go_simp; done) | (go_simp; with_reducible rfl))
                    try go_frame
                    refine wpAnyH_take (i := 1) (oi := _) (v := ?_) (by simp only [List.getElem?_toArray, List.getElem?_cons_succ, List.getElem?_cons_zero]; rfl) (by kernel_rfl) (by kernel_rfl) (by kernel_rfl) (by intro _ _ _ h; exact h) (Or.inl ⟨by rfl, fun W hSw => ?_⟩) hHeld ?_
                    rotate_left 1
                    · (try dsimp only at hSw); first | (go_simp; done) | (go_simp; with_reducible rfl)
                    try go_frame
                    refine wpAnyH_take (i := 2) (oi := _) (v := ?_) (by simp only [List.getElem?_toArray, List.getElem?_cons_succ, List.getElem?_cons_zero]; rfl) (by kernel_rfl) (by kernel_rfl) (by kernel_rfl) (by intro _ _ _ h; exact h) (Or.inl ⟨by rfl, fun W hSw => ?_⟩) hHeld ?_
                    rotate_left 1
                    · (clear hSw; first | (go_simp; done) | (go_simp; with_reducible rfl))
                    try go_frame
                    refine wpAnyH_take (i := 3) (oi := _) (v := ?_) (by simp only [List.getElem?_toArray, List.getElem?_cons_succ, List.getElem?_cons_zero]; rfl) (by kernel_rfl) (by kernel_rfl) (by kernel_rfl) (by intro _ _ _ h; exact h) (Or.inl ⟨by rfl, fun W hSw => ?_⟩) hHeld ?_
                    rotate_left 1
                    · (try dsimp only at hSw); first | (go_simp; done) | (go_simp; with_reducible rfl)
                    try go_frame
                    refine wpAnyH_take (i := 4) (oi := _) (v := ?_) (by simp only [List.getElem?_toArray, List.getElem?_cons_succ, List.getElem?_cons_zero]; rfl) (by kernel_rfl) (by kernel_rfl) (by kernel_rfl) (by intro _ _ _ h; exact h) (Or.inl ⟨by rfl, fun W hSw => ?_⟩) hHeld ?_
                    rotate_left 1
                    · (clear hSw; first | (go_simp; done) | (go_simp; with_reducible rfl))
                    try go_frame
                    refine wpAnyH_take (i := 5) (oi := _) (v := ?_) (by simp only [List.getElem?_toArray, List.getElem?_cons_succ, List.getElem?_cons_zero]; rfl) (by kernel_rfl) (by kernel_rfl) (by kernel_rfl) (by intro _ _ _ h; exact h) (Or.inl ⟨by rfl, fun W hSw => ?_⟩) hHeld ?_
                    rotate_left 1
                    · (clear hSw; first | (go_simp; done) | (go_simp; with_reducible rfl))
                    try go_frame
                    refine wpAnyH_take (i := 7) (oi := _) (v := ?_) (by simp only [List.getElem?_toArray, List.getElem?_cons_succ, List.getElem?_cons_zero]; rfl) (by kernel_rfl) (by kernel_rfl) (by kernel_rfl) (by intro _ _ _ h; exact h) (Or.inl ⟨by rfl, fun W hSw => ?_⟩) hHeld ?_
                    rotate_left 1
                    · (clear hSw; first | (go_simp; done) | (go_simp; with_reducible rfl))
                    try go_frame
                    refine wpAnyH_ready (rs := [6, 8]) (by kernel_rfl) (by simp) ?_
                    refine AllReadyH.cons (o := _) (by simp only [List.getElem?_toArray, List.getElem?_cons_succ, List.getElem?_cons_zero]; rfl) (fun KX hKX => ?_) ?_
                    · clear hHeld
                      have hy := HS.out.row.2.2.2.1
                      go_simp
                      clear hy
                      refine hKX.out _ _ (by first | exact HS.out.held | exact HH.out) (fun hHeld => ?_)
                      clear hKX KX
                      try go_frame
                      refine wpAnyH_ready (rs := [8]) (by kernel_rfl) (by simp) ?_
                      refine AllReadyH.cons (o := _) (by simp only [List.getElem?_toArray, List.getElem?_cons_succ, List.getElem?_cons_zero]; rfl) (fun KX hKX => ?_) AllReadyH.nil
                      clear hHeld
                      go_simp
                      refine (method_l _ _ _ _ _).mono ?_
                      rintro e wx ⟨rfl, hbx⟩
                      replace HS := Lib.hid (HS.out.below hbx)
                      have HBx := Lib.hid hbx
                      clear hbx
                      refine hKX.out _ _ (by first | exact HS.out.held | exact HH.out) (fun hHeld => ?_)
                      clear hKX KX
                      try go_frame
                      refine wpAnyH_ready (rs := [9]) (by kernel_rfl) (by simp) ?_
                      refine AllReadyH.cons (o := _) (by simp only [List.getElem?_toArray, List.getElem?_cons_succ, List.getElem?_cons_zero]; rfl) (fun KX hKX => ?_) AllReadyH.nil
                      clear hHeld
                      go_simp
                      have hsrc := Lib.hid (rdX_lit1 (sz := 9) (c := flC) (fun _ => rfl) wx (mthV nm false true 5) #[.string nm, .slice none 0 0, .int .i64 5, .string ⟨#[]⟩, .bool false, .bool true, .int .i64 0, .slice none 0 0, .slice none 0 0] 42 rfl)
                      replace HS := Lib.hid (HS.out.below (below_alR wx (.cells #[.string nm, .slice none 0 0, .int .i64 5, .string ⟨#[]⟩, .bool false, .bool true, .int .i64 0, .slice none 0 0, .slice none 0 0] 42)))
                      have HBy := Lib.hid (HBx.out.trans ((below_alR wx (.cells #[.string nm, .slice none 0 0, .int .i64 5, .string ⟨#[]⟩, .bool false, .bool true, .int .i64 0, .slice none 0 0, .slice none 0 0] 42)).mono HBx.out.size))
                      refine hKX.out _ _ (by first | exact HS.out.held | exact HH.out) (fun hHeld => ?_)
                      clear hKX KX
                      try go_frame
                      refine wpAnyH_ready (rs := [10]) (by kernel_rfl) (by simp) ?_
                      refine AllReadyH.cons (o := _) (by simp only [List.getElem?_toArray, List.getElem?_cons_succ, List.getElem?_cons_zero]; rfl) (fun KX hKX => ?_) AllReadyH.nil
                      clear hHeld
                      refine step_appM inf_mth shape_fl (by rfl) _ _ (by rfl) B _ L2 (by rfl) HS.out.2.2.2.1 _ 0 1 1 [mthV nm false true 5] (by rfl) hsrc.out (by have := HL2.out; simp; omega) (by have := HBB.out; have := HBy.out.size; simp at this; simp; omega) ?_
                      intro v6 w6 ho6 hg6 hl6
                      obtain ⟨e1, e2, e3, hM6, hB6⟩ := HS.out.app2 ho6 hg6 hl6
                      have HH := Lib.hid (HS.out.held6 hg6 (fun k e => ((HS.out.2.2.2.1).lt k e).1))
                      obtain ⟨pq, nq, cq, hv6⟩ := ho6.slice
                      subst hv6
                      have HM6 := Lib.hid hM6
                      have HB6 := Lib.hid ((HBy.out.mono (by have := HGB.out; have := HBB.out; simp; omega)).trans hB6)
                      clear hM6 hB6 ho6 hg6 hl6 hsrc
                      refine hKX.out _ _ (by first | exact HS.out.held | exact HH.out) (fun hHeld => ?_)
                      clear hKX KX
                      try go_frame
                      refine wpAnyH_take (i := 11) (oi := _) (v := ?_) (by simp only [List.getElem?_toArray, List.getElem?_cons_succ, List.getElem?_cons_zero]; rfl) (by kernel_rfl) (by kernel_rfl) (by kernel_rfl) (by intro _ _ _ h; exact h) (Or.inl ⟨by rfl, fun W hSw => ?_⟩) hHeld ?_
                      rotate_left 1
                      · (clear hSw; first | (go_simp; done) | (go_simp; with_reducible rfl))
                      try go_frame
                      refine wpAnyH_take (i := 12) (oi := _) (v := ?_) (by simp only [List.getElem?_toArray, List.getElem?_cons_succ, List.getElem?_cons_zero]; rfl) (by kernel_rfl) (by kernel_rfl) (by kernel_rfl) (by intro _ _ _ h; exact h) (Or.inl ⟨by rfl, fun W hSw => ?_⟩) hHeld ?_
                      rotate_left 1
                      · (clear hSw; first | (go_simp; done) | (go_simp; with_reducible rfl))
                      try go_frame
                      refine wpAnyH_ready (rs := [13]) (by kernel_rfl) (by simp) ?_
                      refine AllReadyH.cons (o := _) (by simp only [List.getElem?_toArray, List.getElem?_cons_succ, List.getElem?_cons_zero]; rfl) (fun KX hKX => ?_) AllReadyH.nil
                      clear hHeld
                      go_simp
                      replace HS := HM6
                      clear e1 e2 e3
                      refine hKX.out _ _ (by first | exact HS.out.held | exact HH.out) (fun hHeld => ?_)
                      clear hKX KX
                      try go_frame
                      refine wpAnyH_done (by kernel_rfl) ?_ _
                      obtain ⟨W7, hW7⟩ : ∃ x, x = w6.setCell ⟨gc, 17, none⟩ (.slice pq nq cq) := ⟨_, rfl⟩
                      rw [← hW7] at HM6 HB6 ⊢
                      clear hW7 hHeld HS
                      go_wp2_with fail
                      go_meet
                      case rel => exact ⟨.slice pq nq cq, by rw [HLL.out]; exact HM6, Lib.hid (HB5.out.drew.trans (HB6.out.mono HGB.out.2)), Lib.hid (Nat.le_trans HV5.out HB6.out.size)⟩
                    refine AllReadyH.cons (o := _) (by simp only [List.getElem?_toArray, List.getElem?_cons_succ, List.getElem?_cons_zero]; rfl) (fun KX hKX => ?_) AllReadyH.nil
                    clear hHeld
                    go_simp
                    refine (method_l _ _ _ _ _).mono ?_
                    rintro e wx ⟨rfl, hbx⟩
                    replace HS := Lib.hid (HS.out.below hbx)
                    have HBx := Lib.hid hbx
                    clear hbx
                    refine hKX.out _ _ (by first | exact HS.out.held | exact HH.out) (fun hHeld => ?_)
                    clear hKX KX
                    try go_frame
                    refine wpAnyH_ready (rs := [6, 9]) (by kernel_rfl) (by simp) ?_
                    refine AllReadyH.cons (o := _) (by simp only [List.getElem?_toArray, List.getElem?_cons_succ, List.getElem?_cons_zero]; rfl) (fun KX hKX => ?_) ?_
                    · clear hHeld
                      have hy := HS.out.row.2.2.2.1
                      go_simp
                      clear hy
                      refine hKX.out _ _ (by first | exact HS.out.held | exact HH.out) (fun hHeld => ?_)
                      clear hKX KX
                      try go_frame
                      refine wpAnyH_ready (rs := [9]) (by kernel_rfl) (by simp) ?_
                      refine AllReadyH.cons (o := _) (by simp only [List.getElem?_toArray, List.getElem?_cons_succ, List.getElem?_cons_zero]; rfl) (fun KX hKX => ?_) AllReadyH.nil
                      clear hHeld
                      go_simp
                      have hsrc := Lib.hid (rdX_lit1 (sz := 9) (c := flC) (fun _ => rfl) wx (mthV nm false true 5) #[.string nm, .slice none 0 0, .int .i64 5, .string ⟨#[]⟩, .bool false, .bool true, .int .i64 0, .slice none 0 0, .slice none 0 0] 42 rfl)
                      replace HS := Lib.hid (HS.out.below (below_alR wx (.cells #[.string nm, .slice none 0 0, .int .i64 5, .string ⟨#[]⟩, .bool false, .bool true, .int .i64 0, .slice none 0 0, .slice none 0 0] 42)))
                      have HBy := Lib.hid (HBx.out.trans ((below_alR wx (.cells #[.string nm, .slice none 0 0, .int .i64 5, .string ⟨#[]⟩, .bool false, .bool true, .int .i64 0, .slice none 0 0, .slice none 0 0] 42)).mono HBx.out.size))
                      refine hKX.out _ _ (by first | exact HS.out.held | exact HH.out) (fun hHeld => ?_)
                      clear hKX KX
                      try go_frame
                      refine wpAnyH_ready (rs := [10]) (by kernel_rfl) (by simp) ?_
                      refine AllReadyH.cons (o := _) (by simp only [List.getElem?_toArray, List.getElem?_cons_succ, List.getElem?_cons_zero]; rfl) (fun KX hKX => ?_) AllReadyH.nil
                      clear hHeld
                      refine step_appM inf_mth shape_fl (by rfl) _ _ (by rfl) B _ L2 (by rfl) HS.out.2.2.2.1 _ 0 1 1 [mthV nm false true 5] (by rfl) hsrc.out (by have := HL2.out; simp; omega) (by have := HBB.out; have := HBy.out.size; simp at this; simp; omega) ?_
                      intro v6 w6 ho6 hg6 hl6
                      obtain ⟨e1, e2, e3, hM6, hB6⟩ := HS.out.app2 ho6 hg6 hl6
                      have HH := Lib.hid (HS.out.held6 hg6 (fun k e => ((HS.out.2.2.2.1).lt k e).1))
                      obtain ⟨pq, nq, cq, hv6⟩ := ho6.slice
                      subst hv6
                      have HM6 := Lib.hid hM6
                      have HB6 := Lib.hid ((HBy.out.mono (by have := HGB.out; have := HBB.out; simp; omega)).trans hB6)
                      clear hM6 hB6 ho6 hg6 hl6 hsrc
                      refine hKX.out _ _ (by first | exact HS.out.held | exact HH.out) (fun hHeld => ?_)
                      clear hKX KX
                      try go_frame
                      refine wpAnyH_take (i := 11) (oi := _) (v := ?_) (by simp only [List.getElem?_toArray, List.getElem?_cons_succ, List.getElem?_cons_zero]; rfl) (by kernel_rfl) (by kernel_rfl) (by kernel_rfl) (by intro _ _ _ h; exact h) (Or.inl ⟨by rfl, fun W hSw => ?_⟩) hHeld ?_
                      rotate_left 1
                      · (clear hSw; first | (go_simp; done) | (go_simp; with_reducible rfl))
                      try go_frame
                      refine wpAnyH_take (i := 12) (oi := _) (v := ?_) (by simp only [List.getElem?_toArray, List.getElem?_cons_succ, List.getElem?_cons_zero]; rfl) (by kernel_rfl) (by kernel_rfl) (by kernel_rfl) (by intro _ _ _ h; exact h) (Or.inl ⟨by rfl, fun W hSw => ?_⟩) hHeld ?_
                      rotate_left 1
                      · (clear hSw; first | (go_simp; done) | (go_simp; with_reducible rfl))
                      try go_frame
                      refine wpAnyH_ready (rs := [13]) (by kernel_rfl) (by simp) ?_
                      refine AllReadyH.cons (o := _) (by simp only [List.getElem?_toArray, List.getElem?_cons_succ, List.getElem?_cons_zero]; rfl) (fun KX hKX => ?_) AllReadyH.nil
                      clear hHeld
                      go_simp
                      replace HS := HM6
                      clear e1 e2 e3
                      refine hKX.out _ _ (by first | exact HS.out.held | exact HH.out) (fun hHeld => ?_)
                      clear hKX KX
                      try go_frame
                      refine wpAnyH_done (by kernel_rfl) ?_ _
                      obtain ⟨W7, hW7⟩ : ∃ x, x = w6.setCell ⟨gc, 17, none⟩ (.slice pq nq cq) := ⟨_, rfl⟩
                      rw [← hW7] at HM6 HB6 ⊢
                      clear hW7 hHeld HS
                      go_wp2_with fail
                      go_meet
                      case rel => exact ⟨.slice pq nq cq, by rw [HLL.out]; exact HM6, Lib.hid (HB5.out.drew.trans (HB6.out.mono HGB.out.2)), Lib.hid (Nat.le_trans HV5.out HB6.out.size)⟩
                    refine AllReadyH.cons (o := _) (by simp only [List.getElem?_toArray, List.getElem?_cons_succ, List.getElem?_cons_zero]; rfl) (fun KX hKX => ?_) AllReadyH.nil
                    clear hHeld
                    go_simp
                    have hsrc := Lib.hid (rdX_lit1 (sz := 9) (c := flC) (fun _ => rfl) wx (mthV nm false true 5) #[.string nm, .slice none 0 0, .int .i64 5, .string ⟨#[]⟩, .bool false, .bool true, .int .i64 0, .slice none 0 0, .slice none 0 0] 42 rfl)
                    replace HS := Lib.hid (HS.out.below (below_alR wx (.cells #[.string nm, .slice none 0 0, .int .i64 5, .string ⟨#[]⟩, .bool false, .bool true, .int .i64 0, .slice none 0 0, .slice none 0 0] 42)))
                    have HBy := Lib.hid (HBx.out.trans ((below_alR wx (.cells #[.string nm, .slice none 0 0, .int .i64 5, .string ⟨#[]⟩, .bool false, .bool true, .int .i64 0, .slice none 0 0, .slice none 0 0] 42)).mono HBx.out.size))
                    refine hKX.out _ _ (by first | exact HS.out.held | exact HH.out) (fun hHeld => ?_)
                    clear hKX KX
                    try go_frame
                    refine wpAnyH_ready (rs := [6]) (by kernel_rfl) (by simp) ?_
                    refine AllReadyH.cons (o := _) (by simp only [List.getElem?_toArray, List.getElem?_cons_succ, List.getElem?_cons_zero]; rfl) (fun KX hKX => ?_) AllReadyH.nil
                    clear hHeld
                    have hy := HS.out.row.2.2.2.1
                    go_simp
                    clear hy
                    refine hKX.out _ _ (by first | exact HS.out.held | exact HH.out) (fun hHeld => ?_)
                    clear hKX KX
                    try go_frame
                    refine wpAnyH_ready (rs := [10]) (by kernel_rfl) (by simp) ?_
                    refine AllReadyH.cons (o := _) (by simp only [List.getElem?_toArray, List.getElem?_cons_succ, List.getElem?_cons_zero]; rfl) (fun KX hKX => ?_) AllReadyH.nil
                    clear hHeld
                    refine step_appM inf_mth shape_fl (by rfl) _ _ (by rfl) B _ L2 (by rfl) HS.out.2.2.2.1 _ 0 1 1 [mthV nm false true 5] (by rfl) hsrc.out (by have := HL2.out; simp; omega) (by have := HBB.out; have := HBy.out.size; simp at this; simp; omega) ?_
                    intro v6 w6 ho6 hg6 hl6
                    obtain ⟨e1, e2, e3, hM6, hB6⟩ := HS.out.app2 ho6 hg6 hl6
                    have HH := Lib.hid (HS.out.held6 hg6 (fun k e => ((HS.out.2.2.2.1).lt k e).1))
                    obtain ⟨pq, nq, cq, hv6⟩ := ho6.slice
                    subst hv6
                    have HM6 := Lib.hid hM6
                    have HB6 := Lib.hid ((HBy.out.mono (by have := HGB.out; have := HBB.out; simp; omega)).trans hB6)
                    clear hM6 hB6 ho6 hg6 hl6 hsrc
                    refine hKX.out _ _ (by first | exact HS.out.held | exact HH.out) (fun hHeld => ?_)
                    clear hKX KX
                    try go_frame
                    refine wpAnyH_take (i := 11) (oi := _) (v := ?_) (by simp only [List.getElem?_toArray, List.getElem?_cons_succ, List.getElem?_cons_zero]; rfl) (by kernel_rfl) (by kernel_rfl) (by kernel_rfl) (by intro _ _ _ h; exact h) (Or.inl ⟨by rfl, fun W hSw => ?_⟩) hHeld ?_
                    rotate_left 1
                    · (clear hSw; first | (go_simp; done) | (go_simp; with_reducible rfl))
                    try go_frame
                    refine wpAnyH_take (i := 12) (oi := _) (v := ?_) (by simp only [List.getElem?_toArray, List.getElem?_cons_succ, List.getElem?_cons_zero]; rfl) (by kernel_rfl) (by kernel_rfl) (by kernel_rfl) (by intro _ _ _ h; exact h) (Or.inl ⟨by rfl, fun W hSw => ?_⟩) hHeld ?_
                    rotate_left 1
                    · (clear hSw; first | (go_simp; done) | (go_simp; with_reducible rfl))
                    try go_frame
                    refine wpAnyH_ready (rs := [13]) (by kernel_rfl) (by simp) ?_
                    refine AllReadyH.cons (o := _) (by simp only [List.getElem?_toArray, List.getElem?_cons_succ, List.getElem?_cons_zero]; rfl) (fun KX hKX => ?_) AllReadyH.nil
                    clear hHeld
                    go_simp
                    replace HS := HM6
                    clear e1 e2 e3
                    refine hKX.out _ _ (by first | exact HS.out.held | exact HH.out) (fun hHeld => ?_)
                    clear hKX KX
                    try go_frame
                    refine wpAnyH_done (by kernel_rfl) ?_ _
                    obtain ⟨W7, hW7⟩ : ∃ x, x = w6.setCell ⟨gc, 17, none⟩ (.slice pq nq cq) := ⟨_, rfl⟩
                    rw [← hW7] at HM6 HB6 ⊢
                    clear hW7 hHeld HS
                    go_wp2_with fail
                    go_meet
                    case rel => exact ⟨.slice pq nq cq, by rw [HLL.out]; exact HM6, Lib.hid (HB5.out.drew.trans (HB6.out.mono HGB.out.2)), Lib.hid (Nat.le_trans HV5.out HB6.out.size)⟩
                  · have h1' : ((z : Int) == 1) = false := by simp; omega
                    have HLL : Hid (l2M n z = []) := Lib.hid (if_neg h1)
                    go_wp2_with fail
                    go_meet
                    case rel => exact ⟨v2, by rw [HLL.out, List.append_nil]; exact HM5, HB5, HV5⟩
                case rest =>
                  obtain ⟨u2, HM6, HB6, HV6⟩ := hcut
                  clear HM5 HB5 HV5
                  obtain ⟨w6, hw6⟩ : ∃ x, x = wc := ⟨_, rfl⟩
                  subst hw6
                  obtain ⟨R2, hR2⟩ : ∃ l, L2 ++ l2M n z = l := ⟨_, rfl⟩
                  rw [hR2] at HM6
                  have HR2 := Lib.hid hR2
                  clear hR2
                  go_upto_region 16 with fail
                  go_cut [114] from 86 to 114 (fun s wx => s = .bool (wtB x y z) ∧ Hid (wx = w6))
                  case first =>
                    cases e1 : ((x : Int) == 2) <;> cases e2 : ((z : Int) == 1) <;> cases e3 : ((y : Int) == 0) <;> cases e4 : ((x : Int) == 3)
                    all_goals
                      have e5 : ((x : Int) != 3) = !((x : Int) == 3) := rfl
                      rw [e4] at e5
                      go_wp2_with fail
                      go_meet
                      case rel => exact ⟨by unfold wtB; rw [e1, e2, e3, e5]; rfl, Lib.hid rfl⟩
                  case rest =>
                    obtain ⟨rfl, hwc⟩ := hcut
                    have e6 := hwc.out.symm
                    subst e6
                    clear hwc
                    obtain ⟨wt, hwt⟩ : ∃ b, wtB x y z = b := ⟨_, rfl⟩
                    rw [hwt]
                    have HWT := Lib.hid hwt
                    clear hwt
                    have E0 : Hid (l0P p (n + 1) = R0) := Lib.hid (by rw [← HR0.out, ← HE0.out, ← HX.out]; exact fm_next _ _)
                    have E1 : Hid (l1P q (n + 1) = R1) := Lib.hid (by rw [← HR1.out, ← HE1.out, ← HY.out]; exact fm_next _ _)
                    have E2 : Hid (l2P i (n + 1) = R2) := Lib.hid (by rw [← HR2.out, ← HE2.out, ← HZ.out]; exact fm_next _ _)
                    have EW : Hid (wnP p q i (n + 1) = LW ++ wnM n x y z) := Lib.hid (by rw [← HEW.out, ← HX.out, ← HY.out, ← HZ.out]; exact fm_next _ _)
                    clear HR0 HR1 HR2 HE0 HE1 HE2 HEW HX HY HZ
                    cases wt with
                    | false =>
                      go_wp2_with fail
                      go_roundg g
                      case rel => exact ⟨n + 1, u0, u1, u2, by go_num, by omega, by rw [E0.out, E1.out, E2.out, EW.out, wt_off HWT.out, List.append_nil]; exact HM6, HB6, HV6⟩
                      case measure => omega
                    | true =>
                      have hn3 : n = 0 ∨ n = 1 ∨ n = 2 := by omega
                      have hcat : ¬ 9223372036854775807 < nm.size + 3 := by
                        rw [← HNM.out]
                        rcases hn3 with rfl | rfl | rfl <;> decide
                      obtain ⟨nv, hnv⟩ : ∃ t, nm ++ (⟨#[40, 41, 86]⟩ : ByteArray) = t := ⟨_, rfl⟩
                      have HNV : Hid (nmV3 n = nv) := Lib.hid (by
                        rw [← hnv, ← HNM.out]
                        rcases hn3 with rfl | rfl | rfl <;> decide +kernel)
                      have hMB := HM6.out.below (below_alR w6 (.cells #[.string nv] 9))
                      have HBB := Lib.hid (HB6.out.trans ((below_alR w6 (.cells #[.string nv] 9)).mono HB6.out.size))
                      have HMB := Lib.hid hMB
                      have HOW := Lib.hid hMB.2.2.2.2.1
                      have HSX := Lib.hid (S.rd_one (c := S.cS) (x := nv) (heap_alloc_new w6 (.cells #[.string nv] 9)) rfl)
                      have hv6 := HV6.out
                      clear hMB hn3 HM6
                      go_upto_region 17 with fail
                      try dsimp only [S.cS] at *
                      go_wp2_with (at_builtin; refine S.wp_appC S.infS (fun _ => rfl) rfl _ _ rfl B _ LW rfl HOW.out (fun _ => True) _ [nv] rfl HSX.out HLW.out (by simp; omega) ?_)
                      intro vw7 w7 ho7 hg7 hl7
                      obtain ⟨hM7, hB7⟩ := HMB.out.want ho7 hg7 (by simpa using hl7)
                      have HM7 := Lib.hid hM7
                      have HB7 := Lib.hid (HBB.out.trans (hB7.mono HGB.out.2))
                      have HV7 : Hid (B ≤ w7.heap.size) := Lib.hid (by have := hB7.size; simp at this; omega)
                      obtain ⟨pq, nq, cq, hvq⟩ := ho7.slice
                      subst hvq
                      clear hM7 hB7 ho7 hg7 hl7 HMB HOW HSX hcat hnv HBB hv6
                      go_wp2_with fail
                      go_roundg g
                      case rel => exact ⟨n + 1, u0, u1, u2, by go_num, by omega, by rw [E0.out, E1.out, E2.out, EW.out, wt_on HWT.out, HNV.out]; exact HM7, HB7, HV7⟩
                      case measure => omega
end Go.Proofs.YtlmpnmnfloeoiaaGreat.R
