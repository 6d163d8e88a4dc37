/- Texts that the proof is made of, joined. No condition. -/
import Derived.Test.YtjegocecgncpkaaC916
import Derived.Test.YtjegocecgncpkaaC9SRef
import Derived.Deep.DeepCutAuto
import Derived.Test.YtjegocecgncpkaaC9H
set_option linter.unusedVariables false
set_option linter.unusedSimpArgs false
set_option maxRecDepth 100000
set_option maxHeartbeats 16000000
namespace Go.Proofs.Ytjegocecgncpkaa.R
open Go.RowKit Go.Proofs.Ytjegocecgncpkaa.D Go.Proofs.Ytjegocecgncpkaa.O Go.Proofs.Ytjegocecgncpkaa.A
theorem sup_at4 (i : Nat) (h : i < 4) : ([.string ⟨#[79, 98, 106, 101, 99, 116]⟩, .string ⟨#[65]⟩, .string ⟨#[66]⟩, .string ⟨#[67]⟩] : List Value)[i]'h = .string (supV i) := by
  match i, h with
  | 0, _ => rfl
  | 1, _ => rfl
  | 2, _ => rfl
  | 3, _ => rfl
def mI (r : Int) : Mth := ⟨clinT, [], (r, es), true, false, 0, [], []⟩
def msI (k i : Nat) : List Mth := if bitS k i = true then [mI 5] else if bitS k (i + 4) = true then [mI 1] else []
def clsI' (k i : Nat) : Cls := ⟨nmV i, supV i, [], 1, [], msI k i⟩
def wantI (k i : Nat) : List ByteArray := ((List.range i).filter (bitS k)).map nmV
theorem clsI_next (k i : Nat) : (List.range (i + 1)).map (clsI' k) = (List.range i).map (clsI' k) ++ [clsI' k i] := by rw [List.range_succ, List.map_append]; rfl
theorem want_next (k i : Nat) : wantI k (i + 1) = if bitS k i = true then wantI k i ++ [nmV i] else wantI k i := by
  unfold wantI
  rw [List.range_succ, List.filter_append, List.map_append]
  by_cases h : bitS k i = true
  · rw [if_pos h]; simp [h]
  · rw [if_neg h]; simp [h]
def msB (b c : Bool) : List Mth := if b = true then [mI 5] else if c = true then [mI 1] else []
def clB (b0 b1 b2 b3 c0 c1 c2 c3 : Bool) : List Cls := [⟨nmV 0, supV 0, [], 1, [], msB b0 c0⟩, ⟨nmV 1, supV 1, [], 1, [], msB b1 c1⟩, ⟨nmV 2, supV 2, [], 1, [], msB b2 c2⟩, ⟨nmV 3, supV 3, [], 1, [], msB b3 c3⟩]
def wantB (b0 b1 b2 b3 : Bool) : List ByteArray := whenS b0 [nmV 0] ++ whenS b1 [nmV 1] ++ whenS b2 [nmV 2] ++ whenS b3 [nmV 3]
theorem cl_eq (k : Nat) : (List.range 4).map (clsI' k) = clB (bitS k 0) (bitS k 1) (bitS k 2) (bitS k 3) (bitS k 4) (bitS k 5) (bitS k 6) (bitS k 7) := rfl
theorem want_eq (k : Nat) : wantI k 4 = wantB (bitS k 0) (bitS k 1) (bitS k 2) (bitS k 3) := by
  unfold wantI
  show (([0, 1, 2, 3] : List Nat).filter (bitS k)).map nmV = _
  simp only [List.filter_cons, List.filter_nil]
  generalize bitS k 0 = b0
  generalize bitS k 1 = b1
  generalize bitS k 2 = b2
  generalize bitS k 3 = b3
  cases b0 <;> cases b1 <;> cases b2 <;> cases b3 <;> rfl
theorem init_D (k : Nat) : initsK (keepL ((List.range 4).map (clsI' k))) ⟨#[68]⟩ = wantI k 4 := by
  rw [cl_eq, want_eq]
  generalize bitS k 0 = b0
  generalize bitS k 1 = b1
  generalize bitS k 2 = b2
  generalize bitS k 3 = b3
  generalize bitS k 4 = c0
  generalize bitS k 5 = c1
  generalize bitS k 6 = c2
  generalize bitS k 7 = c3
  cases b0 <;> cases b1 <;> cases b2 <;> cases b3 <;> cases c0 <;> cases c1 <;> cases c2 <;> cases c3 <;> kernel_rfl
theorem init_F (k : Nat) : initsK (keepL ((List.range 4).map (clsI' k))) ⟨#[70, 97, 117, 108, 116]⟩ = [] := by rw [cl_eq]; kernel_rfl
theorem init_N (k : Nat) : initsK (keepL ((List.range 4).map (clsI' k))) ⟨#[78, 111, 98, 111, 100, 121]⟩ = [] := by rw [cl_eq]; kernel_rfl
theorem init_sz (k : Nat) : SzT (((List.range 4).map (clsI' k)).map skOf) := szT_small (by rw [cl_eq]; kernel_rfl)
theorem msB_all {P : Mth → Prop} (h5 : P (mI 5)) (h1 : P (mI 1)) (b c : Bool) : ∀ m ∈ msB b c, P m := by
  cases b
  · cases c
    · exact nil_all
    · exact one_all h1 nil_all
  · exact one_all h5 nil_all
theorem msB_len (b c : Bool) : (msB b c).length ≤ 100 := by cases b <;> cases c <;> decide
theorem init_few (k : Nat) : ∀ c ∈ (List.range 4).map (clsI' k), FewC c ∧ FewK c := by
  have h1 : ∀ r, FewM (mI r) := fun r => ⟨Nat.zero_le _, Nat.zero_le _, Nat.zero_le _⟩
  have h2 : ∀ r, SzM (mI r) := fun r => ⟨Nat.zero_le _, fun u hu => (by cases hu), Nat.zero_le _⟩
  have h3 : ∀ n s b c, FewC ⟨n, s, [], 1, [], msB b c⟩ ∧ FewK ⟨n, s, [], 1, [], msB b c⟩ := fun n s b c => ⟨few_cls (Nat.zero_le _) (Nat.zero_le _) (msB_len b c) (msB_all (h1 _) (h1 _) b c), Nat.zero_le _, msB_all (h2 _) (h2 _) b c⟩
  rw [cl_eq]
  exact one_all (h3 _ _ _ _) (one_all (h3 _ _ _ _) (one_all (h3 _ _ _ _) (one_all (h3 _ _ _ _) nil_all)))
theorem init_ask (k : Nat) : AskK (keepL ((List.range 4).map (clsI' k))) := askK_of (keep_few (fun c hc => (init_few k c hc).1)) (fun c hc => (init_few k c (keepL_mem _ c hc)).2)
theorem bit_at (k i : Nat) (hk : k < 256) : (bits .and .u8 ((k : Int) / 2 ^ i) 1 == 1) = bitS k i := by
  have e : ((k : Int) / 2 ^ i) = ((k / 2 ^ i : Nat) : Int) := by rw [Int.natCast_ediv, Int.natCast_pow]; rfl
  have hl : k / 2 ^ i < 256 := Nat.lt_of_le_of_lt (Nat.div_le_self _ _) hk
  rw [e, show (1 : Int) = ((1 : Nat) : Int) from rfl, u8_and_nat _ _ (by omega) (by omega), Nat.and_one_is_mod]
  unfold bitS
  rw [Bool.eq_iff_iff, beq_iff_eq, decide_eq_true_eq]
  omega
set_option maxHeartbeats 8000000 in
set_option maxRecDepth 100000 in
theorem init_l (k : Nat) (w : World) (hk : k < 256) :
    Calls Try.prog 6 #[.int .u8 (k : Int)] w fun e w' => e = .returned (.bool true) ∧ Below w.heap.size w w' := by
  go_enter Try.func6, Try.ntmps6
  try simp only [List.append_eq, List.cons_append, List.nil_append]
  go_wp2_with fail
  refine (known_9 w).mono ?_
  rintro e w1 ⟨rfl, hb1⟩
  have HB1 := Lib.hid hb1
  clear hb1
  obtain ⟨w2, hw2⟩ : ∃ z, z = w1.alloc (.cells #[.slice none 0 0] 28) := ⟨_, rfl⟩
  have hx2 : w2.heap[w1.heap.size]? = some (.cells #[.slice none 0 0] 28 (0, 0)) := by rw [hw2]; exact heap_alloc_new _ _
  have HBL : Hid (Below w1.heap.size w1 w2) := Lib.hid (by rw [hw2]; exact below_alR _ _)
  go_upto_region 6 with fail
  rw [← hw2]
  clear hw2
  obtain ⟨a, ha⟩ : ∃ z, w1.heap.size = z := ⟨_, rfl⟩
  rw [ha] at hx2 HBL
  try rw [ha]
  have HA0 := Lib.hid ha
  clear ha
  have HAR : Hid (ArB w2 a a (.slice none 0 0) (.slice none 0 0) [] [] []) := Lib.hid ⟨hx2, Nat.le_refl _, OwnX.nil _ _ _ _ _, trivial, by simp [Value.ownBlock], S.OwnC.nil _ _, by simp [Value.ownBlock], by simp [Value.ownBlock]⟩
  clear hx2
  go_loopg [4, 5] 4 (fun g v x wr => ∃ (i : Nat) (va : Value) (rs : List (Raw 6)), x = .int .i64 (i : Int) ∧ i + g = 4 ∧ Hid (ArB wr a a va v rs ((List.range i).map (clsI' k)) (wantI k i)) ∧ Hid (Below a w1 wr))
  case atStart => exact ⟨0, _, [], rfl, rfl, HAR, HBL⟩
  case round =>
    clear HAR HBL
    obtain ⟨i, va, rs, rfl, hig, HI, HB⟩ := hrel
    cases gk with
    | zero =>
      obtain rfl : i = 4 := by omega
      obtain ⟨-, pva, cva, hva⟩ := HI.out.len
      subst hva
      obtain ⟨pw, nw, cw, hv⟩ := HI.out.2.2.2.2.2.1.slice
      subst hv
      have HRD := Lib.hid HI.out.rd
      have HOW := Lib.hid HI.out.2.2.2.2.2.1
      obtain ⟨al, a0, -⟩ := HI.out.cells
      clear HI
      go_upto_region 15 with fail
      go_wp2_with fail
      refine (New_t ((List.range 4).map (clsI' k)) pva cva _ wr HRD.out (init_sz k) (fun c hc => (init_few k c hc).1)).mono ?_
      rintro e w9 ⟨tb, mb, vs, rfl, ht9, hb9⟩
      have HT := Lib.hid ht9
      have HB9 := Lib.hid ((HB1.out.trans (HB.out.mono (by have := HA0.out; have := HB1.out.size; omega))).trans (hb9.mono (by have := HA0.out; have := HB1.out.size; have := HB.out.size; omega)))
      have HA := Lib.hid (init_ask k)
      have HID := Lib.hid (init_D k)
      have HIF := Lib.hid (init_F k)
      have HIN := Lib.hid (init_N k)
      have HW9 := Lib.hid (HOW.out.kpt (S.Kpt.of_below (S := []) hb9) (by simp))
      have hwl : (wantI k 4).length ≤ 100000 := by unfold wantI; rw [List.length_map]; have := List.length_filter_le (bitS k) (List.range 4); rw [List.length_range] at this; omega
      have HWL := Lib.hid hwl
      obtain ⟨K, hK⟩ : ∃ x, keepL ((List.range 4).map (clsI' k)) = x := ⟨_, rfl⟩
      rw [hK] at HT HA HID HIF HIN
      obtain ⟨ok, hok⟩ : ∃ x, (fun b => wr.heap.size ≤ b) = x := ⟨_, rfl⟩
      rw [hok] at HT
      obtain ⟨L, hL⟩ : ∃ x, wantI k 4 = x := ⟨_, rfl⟩
      rw [hL] at HID HW9 HWL
      clear hK hok hL ht9 hb9 HRD HOW a0 al hwl
      go_upto_region 16 with fail
      go_wp2_with fail
      refine (Inits_m ok tb mb vs K _ w9 HT.out (sz_small (by decide)) HA.out).mono ?_
      rw [HID.out]
      rintro e w10 ⟨p10, c10, rfl, ho10, hb10⟩
      have HO10 := Lib.hid ho10
      have HB10 := Lib.hid hb10
      have HW10 := Lib.hid (HW9.out.kpt (S.Kpt.of_below (S := []) hb10) (by simp))
      clear ho10 hb10 HW9
      go_wp2_with fail
      refine (S.strs_S _ _ L L _ _ w10 HO10.out.rd HW10.out.rd HWL.out HWL.out).mono ?_
      rintro e w11 ⟨rfl, n11, rfl⟩
      rw [show S.eqB L L = true from S.eqB_iff.2 rfl]
      obtain ⟨w11, hw11⟩ : ∃ z, w10.drewN n11 = z := ⟨_, rfl⟩
      have hb11 : Below w10.heap.size w10 (w10.drewN n11) := S.below_drewN _ _ _
      rw [hw11] at hb11 ⊢
      have HB11 := Lib.hid (HB10.out.trans (hb11.mono HB10.out.size))
      clear hw11 hb11 HO10 HW10
      go_wp2_with fail
      refine (Inits_m ok tb mb vs K _ w11 (HT.out.below HB11.out) (sz_small (by decide)) HA.out).mono ?_
      rw [HIF.out]
      rintro e w12 ⟨p12, c12, rfl, -, hb12⟩
      have HB12 := Lib.hid (HB11.out.trans (hb12.mono HB11.out.size))
      clear hb12
      go_wp2_with fail
      refine (Inits_m ok tb mb vs K _ w12 (HT.out.below HB12.out) (sz_small (by decide)) HA.out).mono ?_
      rw [HIN.out]
      rintro e w13 ⟨p13, c13, rfl, -, hb13⟩
      have HB13 := Lib.hid (HB12.out.trans (hb13.mono HB12.out.size))
      clear hb13
      go_wp2_with fail
      go_ret
      exact ⟨rfl, HB9.out.trans (HB13.out.mono HB9.out.size)⟩
    | succ g =>
      have hlt : i < 4 := by omega
      have hlt' : (i : Int) < 4 := by omega
      have i0 : (0 : Int) ≤ (i : Int) := by omega
      have v0 : IntKind.u8.wrap (i : Int) = (i : Int) := IntWalk.u8_in _ (by omega)
      have v1 : IntKind.u8.wrap (65 + (i : Int)) = 65 + (i : Int) := IntWalk.u8_in _ (by omega)
      have kc := @conv_nm i hlt
      have ks := sup_at4 i
      have kc1 := fun (X Y : Obj) => conv_nm i hlt wr.heap.size (((wr.alloc (.cells #[.int .u8 (65 + (i : Int))] 5)).alloc X).alloc Y).drew (nm_first wr _ X Y)
      have kc2 := fun (X Y : Obj) => conv_nm i hlt (wr.heap.size + 1) (((wr.alloc X).alloc (.cells #[.int .u8 (65 + (i : Int))] 5)).alloc Y).drew (nm_second wr _ X Y)
      have kc3 := fun (X Y : Obj) => conv_nm i hlt (wr.heap.size + 1 + 1) (((wr.alloc X).alloc Y).alloc (.cells #[.int .u8 (65 + (i : Int))] 5)).drew (nm_third wr _ X Y)
      obtain ⟨pw, nw, cw, hv⟩ := HI.out.2.2.2.2.2.1.slice
      subst hv
      obtain ⟨-, pva, cva, hva⟩ := HI.out.len
      rw [List.length_map, List.length_range] at hva
      subst hva
      go_upto_region 8 with fail
      go_cut [6] (fun s6 wx => ∃ x, s6 = .pointer (some ⟨x, 0, none⟩) ∧ wr.heap.size ≤ x ∧ Hid (wx.heap[x]? = some (.cells #[.string (nmV i), .string (supV i), .slice none 0 0, .int .i64 1, .slice none 0 0, .slice none 0 0] 50 (0, 0))) ∧ Hid (Below wr.heap.size wr wx))
      case first =>
        go_region_law (fail)
        all_goals
          go_wp2_with fail
          go_meet
          case rel => exact ⟨_, rfl, by omega, Lib.hid (by first | exact hp1 _ _ _ _ _ | exact hp2 _ _ _ _ _ | exact hp3 _ _ _ _ _), Lib.hid (hp_below _ _ _ _)⟩
      case rest =>
        obtain ⟨xb, rfl, hxb, HX, HBX⟩ := hcut
        clear kc ks kc1 kc2 kc3 v1
        have hbit := bit_at k i hk
        have hbit4 := bit_at k (i + 4) hk
        obtain ⟨b, hb⟩ : ∃ z, bitS k i = z := ⟨_, rfl⟩
        obtain ⟨b4, hb4⟩ : ∃ z, bitS k (i + 4) = z := ⟨_, rfl⟩
        rw [hb] at hbit
        rw [hb4] at hbit4
        have HBI := Lib.hid hb
        have HB4 := Lib.hid hb4
        clear hb hb4
        obtain ⟨xl, xc, xf⟩ := boxN HX.out
        have x0 := xc 0 _ rfl
        have x5 := xc 5 _ rfl
        have z5 := xf 5
        simp only [Nat.zero_add] at x0 x5
        clear xc xf
        have v4 : IntKind.i64.wrap ((i : Int) + 4) = (i : Int) + 4 := IntWalk.i64_in _ (by omega)
        have i4 : (0 : Int) ≤ (i : Int) + 4 := by omega
        have n4 : ((i : Int) + 4).toNat = i + 4 := by omega
        cases b with
        | true =>
          obtain ⟨wM, hwM⟩ : ∃ z, z = (wc.setCell ⟨xb, 5, none⟩ (.slice (some ⟨wc.heap.size, 0, none⟩) 1 1)).alloc (.cells #[.string ⟨#[99, 108, 105, 110, 105, 116]⟩, .slice none 0 0, .int .i64 5, .string ⟨#[]⟩, .bool true, .bool false, .int .i64 0, .slice none 0 0, .slice none 0 0] 44) := ⟨_, rfl⟩
          have hk : Kpt [xb] wc (wc.setCell ⟨xb, 5, none⟩ (.slice (some ⟨wc.heap.size, 0, none⟩) 1 1)) := Kpt.set _ _ _ _ _ (by simp)
          have hbm : Below wc.heap.size (wc.setCell ⟨xb, 5, none⟩ (.slice (some ⟨wc.heap.size, 0, none⟩) 1 1)) wM := by rw [hwM]; exact (below_alR _ _).mono (by simp)
          have hxM : wM.heap[xb]? = some (.cells #[.string (nmV i), .string (supV i), .slice none 0 0, .int .i64 1, .slice none 0 0, .slice (some ⟨wc.heap.size, 0, none⟩) 1 1] 50 (0, 0)) := by rw [hbm.block _ xl, heap_setCell_same _ _ 5 _ _ _ HX.out]; rfl
          have hmM : wM.heap[wc.heap.size]? = some (.cells #[.string ⟨#[99, 108, 105, 110, 105, 116]⟩, .slice none 0 0, .int .i64 5, .string ⟨#[]⟩, .bool true, .bool false, .int .i64 0, .slice none 0 0, .slice none 0 0] 44 (0, 0)) := by rw [hwM]; have := heap_alloc_new (wc.setCell ⟨xb, 5, none⟩ (.slice (some ⟨wc.heap.size, 0, none⟩) 1 1)) (.cells #[.string ⟨#[99, 108, 105, 110, 105, 116]⟩, .slice none 0 0, .int .i64 5, .string ⟨#[]⟩, .bool true, .bool false, .int .i64 0, .slice none 0 0, .slice none 0 0] 44); rwa [World.size_setCell] at this
          have hzc := HBX.out.size
          have hbM : Below wr.heap.size wr wM := (HBX.out.trans (hk.below (B := wr.heap.size) (fun z hz => by rw [List.mem_singleton.1 hz]; exact hxb) hzc)).trans (hbm.mono hzc)
          have hms : msI k i = [mI 5] := by unfold msI; rw [if_pos HBI.out]
          have hIM := HI.out.below hbM
          have HOM := Lib.hid (hIM.2.2.2.2.2.1.alloc (.cells #[.string (nmV i)] 9))
          have HIN := Lib.hid (hIM.below (below_alR wM (.cells #[.string (nmV i)] 9)))
          have HXM := Lib.hid hxM
          have HMM := Lib.hid hmM
          have HBM := Lib.hid hbM
          have HMS := Lib.hid hms
          have hwl : (wantI k i).length + 1 ≤ 1000000 := by unfold wantI; rw [List.length_map]; have := List.length_filter_le (bitS k) (List.range i); rw [List.length_range] at this; omega
          have HWL := Lib.hid hwl
          have HSX := Lib.hid (S.rd_one (c := S.cS) (x := nmV i) (heap_alloc_new wM (.cells #[.string (nmV i)] 9)) rfl)
          obtain ⟨ml, mc, -⟩ := boxN hxM
          have m0 := mc 0 _ rfl
          simp only [Nat.zero_add] at m0
          have hzM := hbM.size
          have hal := HIN.out.lt
          have haM : a ≤ wM.heap.size := by have := HI.out.lt; omega
          clear mc hk hbm hxM hmM hbM hms hIM hwl
          go_upto_region 11 with fail
          rw [← hwM]
          clear hwM x0 x5 z5 xl
          try dsimp only [S.cS] at *
          go_wp2_with (at_builtin; refine S.wp_appC S.infS (fun _ => rfl) rfl _ _ rfl a _ _ rfl HOM.out (fun _ => True) _ [nmV i] rfl HSX.out HWL.out (by simp; omega) ?_)
          intro vw6 wA hoA hgA hlA
          obtain ⟨hIA, hBA⟩ := HIN.out.want (L' := wantI k (i + 1)) (by rw [want_next, if_pos HBI.out]; exact hoA) hgA (by simpa using hlA) (by simp; omega)
          have HIA := Lib.hid hIA
          have HBA := Lib.hid (HB.out.trans (((HBM.out.mono (by have := HI.out.lt; omega)).trans ((below_alR wM (.cells #[.string (nmV i)] 9)).mono haM)).trans hBA))
          have hkA : ∀ x, wr.heap.size ≤ x → x < wM.heap.size → wA.heap[x]? = wM.heap[x]? ∧ vw6.ownBlock ≠ some x := fun x hx hxl => by
            have h1 := HI.out.2.2.2.2.2.1.lt
            refine ⟨(hgA.block x (by simp; omega) (fun e => by have := (h1 x e.symm).2; omega)).trans ((below_alR wM _).block x hxl), fun e => ?_⟩
            rcases hlA with e' | e'
            · rw [e'] at e
              have := (h1 x e).2
              omega
            · rw [e'] at e
              simp at e
              omega
          have hzc := HBX.out.size
          have hcM : wc.heap.size < wM.heap.size := (Array.getElem?_eq_some_iff.1 HMM.out).1
          have HXA := Lib.hid ((hkA xb hxb ml).1.trans HXM.out)
          have hMA := (hkA wc.heap.size hzc hcM).1.trans HMM.out
          have HMV : Hid (RdX 9 mP (okV a a (.slice pva i cva) vw6) wA (.slice (some ⟨wc.heap.size, 0, none⟩) 1 1) (msI k i)) := Lib.hid (by
            rw [HMS.out]
            have h3 := HI.out.2.2.1.lt
            have h4 := HI.out.lt
            exact rd_block (P := mP) [[.string ⟨#[99, 108, 105, 110, 105, 116]⟩, .slice none 0 0, .int .i64 5, .string ⟨#[]⟩, .bool true, .bool false, .int .i64 0, .slice none 0 0, .slice none 0 0]] [mI 5] _ hMA rfl ⟨by omega, by omega, fun e => by have := (h3 _ e).2; omega, (hkA wc.heap.size hzc hcM).2⟩ ⟨⟨⟨_, _, _, rfl, RdX.nil _ _ _ _, RdX.nil _ _ _ _, RdX.nil _ _ _ _⟩, rfl⟩, trivial⟩ 1 1 rfl (Nat.le_refl _))
          obtain ⟨pw6, nw6, cw6, hv6⟩ := hoA.slice
          subst hv6
          clear hIA hBA hoA hgA hlA hkA hMA HOM HIN HSX m0 ml hal
          go_upto_region 14 with fail
          obtain ⟨yl, yc, -⟩ := boxN HXA.out
          have y0 := yc 0 _ rfl
          have y1 := yc 1 _ rfl
          have y2 := yc 2 _ rfl
          have y3 := yc 3 _ rfl
          have y4 := yc 4 _ rfl
          have y5 := yc 5 _ rfl
          simp only [Nat.zero_add] at y0 y1 y2 y3 y4 y5
          obtain ⟨al, a0, az⟩ := HIA.out.cells
          clear yc
          obtain ⟨rX, hrX⟩ : ∃ r : Raw 6, rawC r = [.string (nmV i), .string (supV i), .slice none 0 0, .int .i64 1, .slice none 0 0, .slice (some ⟨wc.heap.size, 0, none⟩) 1 1] := ⟨⟨[.string (nmV i), .string (supV i), .slice none 0 0, .int .i64 1, .slice none 0 0, .slice (some ⟨wc.heap.size, 0, none⟩) 1 1], rfl, by simp [Value.oneCell']⟩, rfl⟩
          have hcp : cP (okV a a (.slice pva i cva) (.slice pw6 nw6 cw6)) wA (rawC rX) (clsI' k i) := by rw [hrX]; exact ⟨_, _, _, rfl, RdX.nil _ _ _ _, RdX.nil _ _ _ _, HMV.out⟩
          have hIW := HIA.out.below (below_alR wA (.cells #[.string (nmV i), .string (supV i), .slice none 0 0, .int .i64 1, .slice none 0 0, .slice (some ⟨wc.heap.size, 0, none⟩) 1 1] 50))
          have HCW := Lib.hid (cP.grow _ _ _ (wA.alloc (.cells #[.string (nmV i), .string (supV i), .slice none 0 0, .int .i64 1, .slice none 0 0, .slice (some ⟨wc.heap.size, 0, none⟩) 1 1] 50)) _ _ hcp (fun _ h _ => h) (.of_below (below_alR _ _)) (below_alR _ _).size)
          have HSR := Lib.hid (rdX_lit1 rawC_len wA rX #[.string (nmV i), .string (supV i), .slice none 0 0, .int .i64 1, .slice none 0 0, .slice (some ⟨wc.heap.size, 0, none⟩) 1 1] 50 (by rw [hrX]))
          have HIW := Lib.hid hIW
          have HOW := Lib.hid hIW.2.2.1
          have hzA := HBA.out.size
          have haA : a ≤ wA.heap.size := by have := HA0.out; omega
          have hrl := HIA.out.len.1
          rw [List.length_map, List.length_range] at hrl
          have hrl2 : rs.length + 1 ≤ 1000000 := by omega
          have HRL := Lib.hid hrl2
          clear hcp hIW hrl hrl2
          go_wp2_with (at_builtin; refine wp_appM inf_cls (shape_raw 6) rfl _ _ rfl a _ rs rfl HOW.out _ 0 1 1 [rX] rfl HSR.out HRL.out (by simp; omega) ?_)
          intro v6 w6 ho6 hg6 hl6
          obtain ⟨e1, e2, e3, hI6, hB6⟩ := HIW.out.app (by simp; omega) HCW.out ho6 hg6 (by simpa using hl6)
          obtain ⟨pq, nq, cq, hv6⟩ := ho6.slice
          subst hv6
          have HI6 : Hid (ArB (w6.setCell ⟨a, 0, none⟩ (.slice pq nq cq)) a a (.slice pq nq cq) (.slice pw6 nw6 cw6) (rs ++ [rX]) ((List.range (i + 1)).map (clsI' k)) (wantI k (i + 1))) := Lib.hid (by rw [clsI_next]; exact hI6)
          have HB6 : Hid (Below a w1 (w6.setCell ⟨a, 0, none⟩ (.slice pq nq cq))) := Lib.hid (HBA.out.trans (((below_alR wA (.cells #[.string (nmV i), .string (supV i), .slice none 0 0, .int .i64 1, .slice none 0 0, .slice (some ⟨wc.heap.size, 0, none⟩) 1 1] 50)).mono haA).trans hB6))
          clear hI6 hB6 ho6 hg6 hl6 y0 y1 y2 y3 y4 y5 yl al a0 az
          go_wp2_with fail
          obtain ⟨w7, hw7⟩ : ∃ z, z = w6.setCell ⟨a, 0, none⟩ (.slice pq nq cq) := ⟨_, rfl⟩
          rw [← hw7] at HI6 HB6 ⊢
          clear hw7 e1 e2 e3
          go_roundg g
          case measure => omega
          case rel => exact ⟨i + 1, _, _, by go_num, by omega, HI6, HB6⟩
        | false =>
          have HWN : Hid (wantI k (i + 1) = wantI k i) := Lib.hid (by rw [want_next, if_neg (by rw [HBI.out]; simp)])
          cases b4 with
          | true =>
            obtain ⟨wM, hwM⟩ : ∃ z, z = (wc.setCell ⟨xb, 5, none⟩ (.slice (some ⟨wc.heap.size, 0, none⟩) 1 1)).alloc (.cells #[.string ⟨#[99, 108, 105, 110, 105, 116]⟩, .slice none 0 0, .int .i64 1, .string ⟨#[]⟩, .bool true, .bool false, .int .i64 0, .slice none 0 0, .slice none 0 0] 44) := ⟨_, rfl⟩
            have hk : Kpt [xb] wc (wc.setCell ⟨xb, 5, none⟩ (.slice (some ⟨wc.heap.size, 0, none⟩) 1 1)) := Kpt.set _ _ _ _ _ (by simp)
            have hbm : Below wc.heap.size (wc.setCell ⟨xb, 5, none⟩ (.slice (some ⟨wc.heap.size, 0, none⟩) 1 1)) wM := by rw [hwM]; exact (below_alR _ _).mono (by simp)
            have hxM : wM.heap[xb]? = some (.cells #[.string (nmV i), .string (supV i), .slice none 0 0, .int .i64 1, .slice none 0 0, .slice (some ⟨wc.heap.size, 0, none⟩) 1 1] 50 (0, 0)) := by rw [hbm.block _ xl, heap_setCell_same _ _ 5 _ _ _ HX.out]; rfl
            have hmM : wM.heap[wc.heap.size]? = some (.cells #[.string ⟨#[99, 108, 105, 110, 105, 116]⟩, .slice none 0 0, .int .i64 1, .string ⟨#[]⟩, .bool true, .bool false, .int .i64 0, .slice none 0 0, .slice none 0 0] 44 (0, 0)) := by rw [hwM]; have := heap_alloc_new (wc.setCell ⟨xb, 5, none⟩ (.slice (some ⟨wc.heap.size, 0, none⟩) 1 1)) (.cells #[.string ⟨#[99, 108, 105, 110, 105, 116]⟩, .slice none 0 0, .int .i64 1, .string ⟨#[]⟩, .bool true, .bool false, .int .i64 0, .slice none 0 0, .slice none 0 0] 44); rwa [World.size_setCell] at this
            have hzc := HBX.out.size
            have hbM : Below wr.heap.size wr wM := (HBX.out.trans (hk.below (B := wr.heap.size) (fun z hz => by rw [List.mem_singleton.1 hz]; exact hxb) hzc)).trans (hbm.mono hzc)
            have hms : msI k i = [mI 1] := by unfold msI; rw [if_neg (by rw [HBI.out]; simp), if_pos HB4.out]
            have haw : a ≤ wr.heap.size := by have := HI.out.lt; omega
            have HIA : Hid (ArB wM a a (.slice pva i cva) (.slice pw nw cw) rs _ (wantI k (i + 1))) := Lib.hid (by rw [HWN.out]; exact HI.out.below hbM)
            have HBA := Lib.hid (HB.out.trans (hbM.mono haw))
            have HXA := Lib.hid hxM
            have HMV : Hid (RdX 9 mP (okV a a (.slice pva i cva) (.slice pw nw cw)) wM (.slice (some ⟨wc.heap.size, 0, none⟩) 1 1) (msI k i)) := Lib.hid (by
              rw [hms]
              have h3 := HI.out.2.2.1.lt
              have h4 := HI.out.lt
              have h5 := HI.out.2.2.2.2.2.1.lt
              exact rd_block (P := mP) [[.string ⟨#[99, 108, 105, 110, 105, 116]⟩, .slice none 0 0, .int .i64 1, .string ⟨#[]⟩, .bool true, .bool false, .int .i64 0, .slice none 0 0, .slice none 0 0]] [mI 1] _ hmM rfl ⟨by omega, by omega, fun e => by have := (h3 _ e).2; omega, fun e => by have := (h5 _ e).2; omega⟩ ⟨⟨⟨_, _, _, rfl, RdX.nil _ _ _ _, RdX.nil _ _ _ _, RdX.nil _ _ _ _⟩, rfl⟩, trivial⟩ 1 1 rfl (Nat.le_refl _))
            clear hk hbm hxM hmM hbM hms
            go_upto_region 14 with fail
            rw [← hwM]
            clear hwM x0 x5 z5 xl
            obtain ⟨wA, hwA⟩ : ∃ z, z = wM := ⟨_, rfl⟩
            rw [← hwA] at HIA HBA HXA HMV ⊢
            clear hwA
            obtain ⟨yl, yc, -⟩ := boxN HXA.out
            have y0 := yc 0 _ rfl
            have y1 := yc 1 _ rfl
            have y2 := yc 2 _ rfl
            have y3 := yc 3 _ rfl
            have y4 := yc 4 _ rfl
            have y5 := yc 5 _ rfl
            simp only [Nat.zero_add] at y0 y1 y2 y3 y4 y5
            obtain ⟨al, a0, az⟩ := HIA.out.cells
            clear yc
            obtain ⟨rX, hrX⟩ : ∃ r : Raw 6, rawC r = [.string (nmV i), .string (supV i), .slice none 0 0, .int .i64 1, .slice none 0 0, .slice (some ⟨wc.heap.size, 0, none⟩) 1 1] := ⟨⟨[.string (nmV i), .string (supV i), .slice none 0 0, .int .i64 1, .slice none 0 0, .slice (some ⟨wc.heap.size, 0, none⟩) 1 1], rfl, by simp [Value.oneCell']⟩, rfl⟩
            have hcp : cP (okV a a (.slice pva i cva) (.slice pw nw cw)) wA (rawC rX) (clsI' k i) := by rw [hrX]; exact ⟨_, _, _, rfl, RdX.nil _ _ _ _, RdX.nil _ _ _ _, HMV.out⟩
            have hIW := HIA.out.below (below_alR wA (.cells #[.string (nmV i), .string (supV i), .slice none 0 0, .int .i64 1, .slice none 0 0, .slice (some ⟨wc.heap.size, 0, none⟩) 1 1] 50))
            have HCW := Lib.hid (cP.grow _ _ _ (wA.alloc (.cells #[.string (nmV i), .string (supV i), .slice none 0 0, .int .i64 1, .slice none 0 0, .slice (some ⟨wc.heap.size, 0, none⟩) 1 1] 50)) _ _ hcp (fun _ h _ => h) (.of_below (below_alR _ _)) (below_alR _ _).size)
            have HSR := Lib.hid (rdX_lit1 rawC_len wA rX #[.string (nmV i), .string (supV i), .slice none 0 0, .int .i64 1, .slice none 0 0, .slice (some ⟨wc.heap.size, 0, none⟩) 1 1] 50 (by rw [hrX]))
            have HIW := Lib.hid hIW
            have HOW := Lib.hid hIW.2.2.1
            have hzA := HBA.out.size
            have haA : a ≤ wA.heap.size := by have := HA0.out; omega
            have hrl := HIA.out.len.1
            rw [List.length_map, List.length_range] at hrl
            have hrl2 : rs.length + 1 ≤ 1000000 := by omega
            have HRL := Lib.hid hrl2
            clear hcp hIW hrl hrl2
            go_wp2_with (at_builtin; refine wp_appM inf_cls (shape_raw 6) rfl _ _ rfl a _ rs rfl HOW.out _ 0 1 1 [rX] rfl HSR.out HRL.out (by simp; omega) ?_)
            intro v6 w6 ho6 hg6 hl6
            obtain ⟨e1, e2, e3, hI6, hB6⟩ := HIW.out.app (by simp; omega) HCW.out ho6 hg6 (by simpa using hl6)
            obtain ⟨pq, nq, cq, hv6⟩ := ho6.slice
            subst hv6
            have HI6 : Hid (ArB (w6.setCell ⟨a, 0, none⟩ (.slice pq nq cq)) a a (.slice pq nq cq) (.slice pw nw cw) (rs ++ [rX]) ((List.range (i + 1)).map (clsI' k)) (wantI k (i + 1))) := Lib.hid (by rw [clsI_next]; exact hI6)
            have HB6 : Hid (Below a w1 (w6.setCell ⟨a, 0, none⟩ (.slice pq nq cq))) := Lib.hid (HBA.out.trans (((below_alR wA (.cells #[.string (nmV i), .string (supV i), .slice none 0 0, .int .i64 1, .slice none 0 0, .slice (some ⟨wc.heap.size, 0, none⟩) 1 1] 50)).mono haA).trans hB6))
            clear hI6 hB6 ho6 hg6 hl6 y0 y1 y2 y3 y4 y5 yl al a0 az
            go_wp2_with fail
            obtain ⟨w7, hw7⟩ : ∃ z, z = w6.setCell ⟨a, 0, none⟩ (.slice pq nq cq) := ⟨_, rfl⟩
            rw [← hw7] at HI6 HB6 ⊢
            clear hw7 e1 e2 e3
            go_roundg g
            case measure => omega
            case rel => exact ⟨i + 1, _, _, by go_num, by omega, HI6, HB6⟩
          | false =>
            have haw : a ≤ wr.heap.size := by have := HI.out.lt; omega
            have HIA : Hid (ArB wc a a (.slice pva i cva) (.slice pw nw cw) rs _ (wantI k (i + 1))) := Lib.hid (by rw [HWN.out]; exact HI.out.below HBX.out)
            have HBA := Lib.hid (HB.out.trans (HBX.out.mono haw))
            have HMV : Hid (RdX 9 mP (okV a a (.slice pva i cva) (.slice pw nw cw)) wc (.slice none 0 0) (msI k i)) := Lib.hid (by
              have hms : msI k i = [] := by unfold msI; rw [if_neg (by rw [HBI.out]; simp), if_neg (by rw [HB4.out]; simp)]
              rw [hms]
              exact RdX.nil _ _ _ _)
            go_upto_region 14 with fail
            obtain ⟨wA, hwA⟩ : ∃ z, z = wc := ⟨_, rfl⟩
            have HXA := HX
            rw [← hwA] at HIA HBA HXA HMV ⊢
            clear hwA x0 x5 z5 xl
            obtain ⟨yl, yc, -⟩ := boxN HXA.out
            have y0 := yc 0 _ rfl
            have y1 := yc 1 _ rfl
            have y2 := yc 2 _ rfl
            have y3 := yc 3 _ rfl
            have y4 := yc 4 _ rfl
            have y5 := yc 5 _ rfl
            simp only [Nat.zero_add] at y0 y1 y2 y3 y4 y5
            obtain ⟨al, a0, az⟩ := HIA.out.cells
            clear yc
            obtain ⟨rX, hrX⟩ : ∃ r : Raw 6, rawC r = [.string (nmV i), .string (supV i), .slice none 0 0, .int .i64 1, .slice none 0 0, .slice none 0 0] := ⟨⟨[.string (nmV i), .string (supV i), .slice none 0 0, .int .i64 1, .slice none 0 0, .slice none 0 0], rfl, by simp [Value.oneCell']⟩, rfl⟩
            have hcp : cP (okV a a (.slice pva i cva) (.slice pw nw cw)) wA (rawC rX) (clsI' k i) := by rw [hrX]; exact ⟨_, _, _, rfl, RdX.nil _ _ _ _, RdX.nil _ _ _ _, HMV.out⟩
            have hIW := HIA.out.below (below_alR wA (.cells #[.string (nmV i), .string (supV i), .slice none 0 0, .int .i64 1, .slice none 0 0, .slice none 0 0] 50))
            have HCW := Lib.hid (cP.grow _ _ _ (wA.alloc (.cells #[.string (nmV i), .string (supV i), .slice none 0 0, .int .i64 1, .slice none 0 0, .slice none 0 0] 50)) _ _ hcp (fun _ h _ => h) (.of_below (below_alR _ _)) (below_alR _ _).size)
            have HSR := Lib.hid (rdX_lit1 rawC_len wA rX #[.string (nmV i), .string (supV i), .slice none 0 0, .int .i64 1, .slice none 0 0, .slice none 0 0] 50 (by rw [hrX]))
            have HIW := Lib.hid hIW
            have HOW := Lib.hid hIW.2.2.1
            have hzA := HBA.out.size
            have haA : a ≤ wA.heap.size := by have := HA0.out; omega
            have hrl := HIA.out.len.1
            rw [List.length_map, List.length_range] at hrl
            have hrl2 : rs.length + 1 ≤ 1000000 := by omega
            have HRL := Lib.hid hrl2
            clear hcp hIW hrl hrl2
            go_wp2_with (at_builtin; refine wp_appM inf_cls (shape_raw 6) rfl _ _ rfl a _ rs rfl HOW.out _ 0 1 1 [rX] rfl HSR.out HRL.out (by simp; omega) ?_)
            intro v6 w6 ho6 hg6 hl6
            obtain ⟨e1, e2, e3, hI6, hB6⟩ := HIW.out.app (by simp; omega) HCW.out ho6 hg6 (by simpa using hl6)
            obtain ⟨pq, nq, cq, hv6⟩ := ho6.slice
            subst hv6
            have HI6 : Hid (ArB (w6.setCell ⟨a, 0, none⟩ (.slice pq nq cq)) a a (.slice pq nq cq) (.slice pw nw cw) (rs ++ [rX]) ((List.range (i + 1)).map (clsI' k)) (wantI k (i + 1))) := Lib.hid (by rw [clsI_next]; exact hI6)
            have HB6 : Hid (Below a w1 (w6.setCell ⟨a, 0, none⟩ (.slice pq nq cq))) := Lib.hid (HBA.out.trans (((below_alR wA (.cells #[.string (nmV i), .string (supV i), .slice none 0 0, .int .i64 1, .slice none 0 0, .slice none 0 0] 50)).mono haA).trans hB6))
            clear hI6 hB6 ho6 hg6 hl6 y0 y1 y2 y3 y4 y5 yl al a0 az
            go_wp2_with fail
            obtain ⟨w7, hw7⟩ : ∃ z, z = w6.setCell ⟨a, 0, none⟩ (.slice pq nq cq) := ⟨_, rfl⟩
            rw [← hw7] at HI6 HB6 ⊢
            clear hw7 e1 e2 e3
            go_roundg g
            case measure => omega
            case rel => exact ⟨i + 1, _, _, by go_num, by omega, HI6, HB6⟩
end Go.Proofs.Ytjegocecgncpkaa.R
