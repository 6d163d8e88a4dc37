/- Texts that the proof is made of, joined. No condition. -/
import Derived.Test.YtlmpnmnfloeoiaaGreatC1011
import Derived.Test.YtlmpnmnfloeoiaaGreatC1012
import Derived.Test.YtlmpnmnfloeoiaaGreatC10H
set_option linter.unusedVariables false
set_option linter.unusedSimpArgs false
set_option maxRecDepth 100000
set_option maxHeartbeats 16000000
namespace Go.Proofs.YtlmpnmnfloeoiaaGreat.R
open Go.RowKit Go.Proofs.YtlmpnmnfloeoiaaGreat.D Go.Proofs.YtlmpnmnfloeoiaaGreat.O Go.Proofs.YtlmpnmnfloeoiaaGreat.A
theorem typM_size {m : Mth} (h : SzM m) : (typM m).size ≤ 1001004000 := by
  unfold typM ofL
  rw [bx_size, List.length_cons, List.length_append, List.length_cons]
  have h1 := flat_len m.params 1000000 h.2.1
  have h2 := typeL_len m.ret
  have h3 := h.1
  have h4 := h.2.2
  have h5 := Nat.mul_le_mul_right (1000000 + 2) h3
  omega
def SgOk (s : Sg) : Prop := s.2.2.1 = keyC (callOf s) ∧ okC (callOf s) ∧ s.2.2.1.size ≤ maxLen
theorem sg_ok {K : List Cls} (h : AskH K) {n : ByteArray} {s : Sg} (hs : s ∈ sgsK K n) : SgOk s := by
  obtain ⟨m, hm, rfl⟩ := List.mem_map.1 hs
  obtain ⟨hz, hn⟩ := (h.2.1 n).2 m hm
  have ht := typM_size hz
  refine ⟨rfl, ⟨Nat.le_trans hn (by unfold maxLen; omega), Nat.le_trans ht (by unfold maxLen; omega)⟩, ?_⟩
  show (m.name ++ bx (ofL m.params m.ret)).size ≤ maxLen
  have : (typM m).size = (bx (ofL m.params m.ret)).size := rfl
  rw [ByteArray.size_append, ← this]
  unfold maxLen
  omega
theorem sgs_len {K : List Cls} (h : AskH K) (n : ByteArray) : (sgsK K n).length ≤ 40 := by unfold sgsK; rw [List.length_map]; exact (h.2.1 n).1
theorem flat_sgs {K : List Cls} (h : AskH K) : ∀ l : List ByteArray, (l.flatMap (sgsK K)).length ≤ l.length * 40
  | [] => Nat.le_refl _
  | x :: l => by
    have := flat_sgs h l
    have := sgs_len h x
    rw [List.flatMap_cons, List.length_append, List.length_cons, Nat.succ_mul]
    omega
theorem both_len {K : List Cls} (h : AskH K) (n : ByteArray) : (bothK K n).length ≤ 214 := by
  have h1 := (chain_kn (K.map skOf) n).len
  have h2 := (closed_kn (K.map skOf) (wideT (K.map skOf) n)).len
  have h3 := h.2.2
  rw [List.length_map] at h1 h2
  unfold bothK
  rw [List.length_append]
  show _ + (closedT (K.map skOf) (wideT (K.map skOf) n)).length ≤ 214
  omega
theorem abs_len {K : List Cls} (h : AskH K) (l : List ByteArray) : (absL K l []).length ≤ l.length * 40 := by
  have h1 := inF_len (l.flatMap (sgsK K)) []
  have h2 := flat_sgs h l
  unfold absL
  simp only [List.length_nil] at h1
  omega
theorem both_known {K : List Cls} {n x : ByteArray} (h : x ∈ bothK K n) : knownT (K.map skOf) x = true := by
  rcases List.mem_append.1 h with h | h
  · exact (chain_kn (K.map skOf) n).2 x h
  · exact (closed_kn (K.map skOf) (wideT (K.map skOf) n)).2 x h
set_option maxHeartbeats 8000000 in
set_option maxRecDepth 100000 in
theorem missing_h (N lb fb tb mt : Nat) (vs : Value) (K : List Cls) (n : ByteArray) (w : World) (h : LkW w N lb fb tb mt vs K) (hn : n.size ≤ maxLen) (ha : AskH K) (hd : (missK K n).Nodup) :
    Calls Tryz.prog 18 #[.pointer (some ⟨lb, 0, none⟩), .string n] w fun e w' => ∃ v R, e = .returned v ∧ S.OwnC S.cS 9 w' w.heap.size v R ∧ S.Srt S.ltS R ∧ (∀ x, x ∈ R ↔ x ∈ missK K n) ∧ LkW w' N lb fb tb mt vs K ∧ S.Kpt [fb] w w' := by
  have HK := Lib.hid h
  have HA := Lib.hid ha
  have HD := Lib.hid hd
  obtain ⟨hlb, hfb, hlf, c0, c1⟩ := h.cells
  have hNf := h.2.2.2.1
  have hbl := both_len ha n
  have HSZ := Lib.hid h.1.2.2.2.2.2
  clear h ha hd
  have hmm := @run_makeMap Tryz.prog
  go_enter Tryz.func18, Tryz.ntmps18
  go_wp2_with fail
  refine (Chain_t _ tb mt vs K n w HK.out.1 hn).mono ?_
  rintro e w1 ⟨p1, cp1, rfl, ho1, hb1⟩
  have HBO : Hid (bothK K n = (chainT (K.map skOf) n).1 ++ ifacesT (K.map skOf) n) := Lib.hid rfl
  obtain ⟨C, hC⟩ : ∃ x, (chainT (K.map skOf) n).1 = x := ⟨_, rfl⟩
  have HCC := Lib.hid hC
  rw [hC] at ho1 HBO ⊢
  have HO1 := Lib.hid ho1
  have HB1 := Lib.hid hb1
  have hs1 := hb1.size
  clear ho1 hb1 hC c0 c1
  have HK1 := Lib.hid (HK.out.below HB1.out)
  obtain ⟨-, -, -, c0, c1⟩ := HK1.out.cells
  go_upto_region 3 with fail
  have hmbL := heap_alloc_new w1 (.map #[] 0)
  have HL2 : Hid (Lf (w1.alloc (.map #[] 0)) w1.heap.size []) := Lib.hid (S.Mv.made w1)
  have HB2 : Hid (Below w.heap.size w (w1.alloc (.map #[] 0))) := Lib.hid (HB1.out.alloc HB1.out.size _)
  have HK2 : Hid (LkW (w1.alloc (.map #[] 0)) N lb fb tb mt vs K) := Lib.hid (HK1.out.below (below_alR _ _))
  have HO2 : Hid (S.OwnC S.cS 9 (w1.alloc (.map #[] 0)) w.heap.size (.slice p1 C.length cp1) C) := Lib.hid (HO1.out.alloc _)
  have hpl : ∀ g, (Value.slice p1 C.length cp1).ownBlock = some g → w.heap.size ≤ g ∧ g < w1.heap.size := HO1.out.lt
  have HPL := Lib.hid hpl
  obtain ⟨mb, hmb⟩ : ∃ x, w1.heap.size = x := ⟨_, rfl⟩
  have hmw : w.heap.size ≤ mb := by omega
  have hz2 : (w1.alloc (.map #[] 0)).heap.size = mb + 1 := by simp [hmb]
  obtain ⟨w2, hw2⟩ : ∃ x, x = w1.alloc (.map #[] 0) := ⟨_, rfl⟩
  rw [← hw2] at HL2 HB2 HK2 HO2 hz2 ⊢
  rw [hmb] at HL2 HPL ⊢
  clear hw2 hmbL HK1 HB1 HO1 hpl c0 c1 hmm
  obtain ⟨-, -, -, c0, c1⟩ := HK2.out.cells
  go_wp2_with fail
  refine (Ifaces_t _ tb mt vs K n w2 HK2.out.1 hn).mono ?_
  rintro e w3 ⟨p2, cp2, rfl, ho3, hb3⟩
  obtain ⟨I, hI⟩ : ∃ x, ifacesT (K.map skOf) n = x := ⟨_, rfl⟩
  rw [hI] at ho3 HBO ⊢
  have HO3 := Lib.hid ho3
  have hs3 := hb3.size
  have HB3 : Hid (Below w.heap.size w w3) := Lib.hid (HB2.out.trans (hb3.mono HB2.out.size))
  have HK3 := Lib.hid (HK2.out.below hb3)
  have HL3 := Lib.hid (HL2.out.kpt (S.Kpt.of_below (S := []) hb3) (by simp))
  have HC3 := Lib.hid (HO2.out.kpt (S.Kpt.of_below (S := []) hb3) (by simp))
  clear ho3 hb3 hI HB2 HK2 HL2 HO2 c0 c1
  have hX4 := heap_alloc_new w3 (.cells #[.slice p1 C.length cp1, .slice p2 I.length cp2] 23)
  have hb4 := below_alR w3 (.cells #[.slice p1 C.length cp1, .slice p2 I.length cp2] 23)
  have HX4 := Lib.hid hX4
  have HB4 := Lib.hid hb4
  clear hX4 hb4
  go_wp2_with fail
  obtain ⟨w4, hw4⟩ : ∃ x, x = w3.alloc (.cells #[.slice p1 C.length cp1, .slice p2 I.length cp2] 23) := ⟨_, rfl⟩
  rw [← hw4] at HX4 HB4 ⊢
  have hs4 : w4.heap.size = w3.heap.size + 1 := by rw [hw4]; simp
  clear hw4
  have HR1 : Hid (RdX 1 (sP strC) anyB w4 (.slice p1 C.length cp1) C) := Lib.hid ((own_rdX (HC3.out.kpt (S.Kpt.of_below (S := []) HB4.out) (by simp))).step (sP.grow _) (fun _ _ _ => trivial) (fun _ _ _ => rfl) (Nat.le_refl _))
  have HR2 : Hid (RdX 1 (sP strC) anyB w4 (.slice p2 I.length cp2) I) := Lib.hid ((own_rdX (HO3.out.kpt (S.Kpt.of_below (S := []) HB4.out) (by simp))).step (sP.grow _) (fun _ _ _ => trivial) (fun _ _ _ => rfl) (Nat.le_refl _))
  have hlen : C.length + I.length ≤ 214 := by have := hbl; rw [HBO.out, List.length_append] at this; exact this
  refine (concat_h w3.heap.size C.length cp1 I.length cp2 p1 p2 C I anyB w4 HX4.out HR1.out HR2.out (by omega)).mono ?_
  rintro e w5 ⟨pB, cB, rfl, ho5, hb5⟩
  rw [← HBO.out] at ho5 ⊢
  have HRB : Hid (RdX 1 (sP strC) (fun b => b ∉ [fb, mb]) w5 (.slice pB (bothK K n).length cB) (bothK K n)) := Lib.hid ((own_rdX ho5).step (sP.grow _) (fun b hb _ => by simp; omega) (fun _ _ _ => rfl) (Nat.le_refl _))
  have HK5 := Lib.hid ((HK3.out.below HB4.out).below hb5)
  have HL5 := Lib.hid ((HL3.out.kpt (S.Kpt.of_below (S := []) HB4.out) (by simp)).kpt (S.Kpt.of_below (S := []) hb5) (by simp))
  have hc5 := (HC3.out.kpt (S.Kpt.of_below (S := []) HB4.out) (by simp)).kpt (S.Kpt.of_below (S := []) hb5) (by simp)
  have HRC : Hid (RdX 1 (sP strC) (fun b => b ∉ [fb, mb]) w5 (.slice p1 C.length cp1) C) := Lib.hid (by
    obtain ⟨q, cap, e, g1, g2, g3⟩ := own_rdX hc5
    refine ⟨q, cap, e, g1, g2, g3.imp_right ?_⟩
    rintro ⟨b, off, e2, g4, g5, g6⟩
    refine ⟨b, off, e2, ?_, g5, g6⟩
    have e3 : p1 = q := by simp only [Value.slice.injEq] at e; exact e.1
    rcases hc5.cells with ⟨e4, -⟩ | ⟨g, cap', cur, e4, -⟩
    · simp only [Value.slice.injEq] at e4
      rw [e3, e2] at e4
      simp at e4
    · simp only [Value.slice.injEq] at e4
      have e5 : b = g := by
        have := e4.1
        rw [e3, e2] at this
        simp only [Option.some.injEq, Addr.mk.injEq] at this
        exact this.1
      have := HPL.out g (by rw [e4.1]; rfl)
      rw [e5]; simp; omega)
  have HB5 : Hid (Below w.heap.size w w5) := Lib.hid ((HB3.out.trans (HB4.out.mono HB3.out.size)).trans (hb5.mono (by have := HB3.out.size; omega)))
  have hNm : N ≤ mb := by omega
  have hml : mb ≠ lb ∧ mb ≠ fb := by omega
  have hBl := both_len HA.out n
  have HKN : Hid (∀ x ∈ bothK K n, knownT (K.map skOf) x = true ∧ x.size ≤ maxLen) := Lib.hid (fun x hx => ⟨both_known hx, HSZ.out.kn (l := [x]) ⟨by simp, fun y hy => by rw [List.mem_singleton.1 hy]; exact both_known hx⟩ x (by simp)⟩)
  have HCB : Hid (∀ x ∈ C, x ∈ bothK K n) := Lib.hid (fun x hx => by rw [HBO.out]; exact List.mem_append_left _ hx)
  have HLE : Hid (leftK K n = doneL K C (absL K (bothK K n) [])) := Lib.hid (by rw [← HCC.out]; rfl)
  have hCl : C.length ≤ 214 := by omega
  clear ho5 hb5 HR1 HR2 HX4 HB4 HC3 HO3 HL3 HK3 HB3 hs3 hs4 hz2 hs1 hlen hc5 HPL hbl hmb HBO HCC
  obtain ⟨B, hB⟩ : ∃ x, bothK K n = x := ⟨_, rfl⟩
  rw [hB] at HRB hBl HKN HCB HLE ⊢
  clear hB
  go_wp2_with fail
  go_loopw [32] (fun x wr => ∃ i : Nat, x = .int .i64 (i : Int) ∧ i ≤ B.length ∧ Hid (LkW wr N lb fb tb mt vs K) ∧ Hid (Lf wr mb (absL K (B.take i) [])) ∧ Hid (S.Kpt [fb, mb] w5 wr)) (fun x _ => B.length - (intOf x).toNat)
  case atStart => exact ⟨0, rfl, by omega, HK5, HL5, Lib.hid (S.Kpt.refl _ _)⟩
  case round =>
    clear HK5 HL5
    obtain ⟨i, rfl, hi, HK, HLf, HKP⟩ := hrel
    by_cases hlt : i < B.length
    · obtain ⟨x, hx⟩ : ∃ x, B[i]? = some x := ⟨_, List.getElem?_eq_getElem hlt⟩
      obtain ⟨b, off, rfl, -, -, hbk, hbb, hc⟩ := rdX_at HRB.out hx
      have hlt' : (i : Int) < (B.length : Int) := by omega
      have i0 : (0 : Int) ≤ (i : Int) := by omega
      have hc2 : wr.cell? ⟨b, off + i, none⟩ = some (.string x) := by rw [World.cell?_of_block (w := w5) (a := ⟨b, off + i, none⟩) (HKP.out.2 b hbb hbk)]; exact hc
      obtain ⟨hkn, hxs⟩ := HKN.out x (List.mem_of_getElem? hx)
      have HTK := Lib.hid (abs_take K hx [])
      have hL0 : (absL K (B.take i) []).length ≤ 9000 := by
        have h1 := abs_len HA.out (B.take i); have h2 : (B.take i).length ≤ 214 := by rw [List.length_take]; omega
        omega
      obtain ⟨L0, hL0e⟩ : ∃ y, absL K (B.take i) [] = y := ⟨_, rfl⟩
      rw [hL0e] at HLf HTK hL0
      clear hx hc hL0e
      go_wp2_with fail
      refine (face_h N lb fb tb mt vs K x wr HK.out hxs HA.out (ask_known hkn)).mono ?_
      rintro e w6 ⟨⟨fk, fp, fn, fc⟩, rfl, hfv, hk6, hp6⟩
      obtain ⟨-, efn, hfr⟩ := hfv
      have hsk := sgs_len HA.out x
      have HSO : Hid (∀ s ∈ sgsK K x, SgOk s) := Lib.hid (fun s hs => sg_ok HA.out hs)
      dsimp only [fmk] at efn hfr ⊢
      subst efn
      obtain ⟨ss, hss⟩ : ∃ y, sgsK K x = y := ⟨_, rfl⟩
      rw [hss] at hfr HTK hsk HSO ⊢
      have HLf6 := Lib.hid (HLf.out.kpt hp6 (by simp; exact hml.2))
      have HKP6 : Hid (S.Kpt [fb, mb] w5 w6) := Lib.hid (HKP.out.trans hp6 (fun y hy => .inl (by rw [List.mem_singleton.1 hy]; simp)))
      have HK6 := Lib.hid hk6
      have HFR6 := Lib.hid hfr
      clear hfr hk6 hp6 HK HLf HKP hss hc2 hkn hxs
      have hfs := field_signs fk fp ss.length fc w6
      go_wp2_with fail
      clear hfs
      go_loopw [41] (fun x wr => ∃ j : Nat, x = .int .i64 (j : Int) ∧ j ≤ ss.length ∧ Hid (LkW wr N lb fb tb mt vs K) ∧ Hid (Lf wr mb ((ss.take j).foldl inS L0)) ∧ Hid (RdX 5 (sP sgC) (okSg wr) wr (.slice fp ss.length fc) ss) ∧ Hid (S.Kpt [fb, mb] w5 wr)) (fun x _ => ss.length - (intOf x).toNat)
      case atStart => exact ⟨0, rfl, by omega, HK6, HLf6, HFR6, HKP6⟩
      case round =>
        clear HK6 HLf6 HFR6 HKP6
        obtain ⟨j, rfl, hj, HK, HLf, HFR, HKP⟩ := hrel
        by_cases hjl : j < ss.length
        · obtain ⟨s, hs⟩ : ∃ s, ss[j]? = some s := ⟨_, List.getElem?_eq_getElem hjl⟩
          have hjl' : (j : Int) < (ss.length : Int) := by omega
          have j0 : (0 : Int) ≤ (j : Int) := by omega
          have hne : ss ≠ [] := by rintro rfl; simp at hjl
          obtain ⟨g, goff, rfl, -, -, hgk, hgl, hcells⟩ := HFR.out.place hne
          obtain ⟨l, rfl, hcell⟩ := hcells _ _ hs
          have HSS := Lib.hid (HSO.out s (List.mem_of_getElem? hs))
          have HFT := Lib.hid (fold_take inS L0 hs)
          have hFL : ((ss.take j).foldl inS L0).length ≤ 9100 := by
            have h1 := inF_len (ss.take j) L0
            rw [List.length_take] at h1
            omega
          obtain ⟨F, hF⟩ : ∃ y, (ss.take j).foldl inS L0 = y := ⟨_, rfl⟩
          rw [hF] at HLf HFT hFL
          obtain ⟨nm, ty, ky, sst, sab⟩ := s
          obtain ⟨y0, y1, y2, y3, y4⟩ := five_at (show CellsAt wr g (goff + j * 5) [.string nm, .string ty, .string ky, .bool sst, .bool sab] from hcell)
          have hgn : g ≠ wr.heap.size := by omega
          have HBX := Lib.hid (below_alR wr (.cells #[.string nm, .string ty, .string ky, .bool sst, .bool sab] 104))
          have HKb := Lib.hid (HK.out.below HBX.out)
          have HLfb := Lib.hid (HLf.out.kpt (S.Kpt.of_below (S := []) HBX.out) (by simp))
          have HKPb : Hid (S.Kpt [fb, mb] w5 (wr.alloc (.cells #[.string nm, .string ty, .string ky, .bool sst, .bool sab] 104))) := Lib.hid (HKP.out.trans (S.Kpt.of_below (S := []) HBX.out) (fun y hy => by cases hy))
          have hkx : S.Kpt [] wr (wr.alloc (.cells #[.string nm, .string ty, .string ky, .bool sst, .bool sab] 104)) := S.Kpt.of_below HBX.out
          have HFRb : Hid (RdX 5 (sP sgC) (okSg (wr.alloc (.cells #[.string nm, .string ty, .string ky, .bool sst, .bool sab] 104))) (wr.alloc (.cells #[.string nm, .string ty, .string ky, .bool sst, .bool sab] 104)) (.slice (some ⟨g, goff, none⟩) ss.length fc) ss) := Lib.hid (HFR.out.step (sP.grow _) (fun b hb hl => by obtain ⟨cs, fr, e⟩ := hb; exact ⟨cs, fr, (hkx.2 b hl (by simp)).trans e⟩) (fun b _ hl => hkx.2 b hl (by simp)) hkx.size)
          clear hcells hcell hne hs hF HK HLf HFR HKP hkx hgk HBX
          cases sab with
          | false =>
            go_wp2_with fail
            go_roundw
            case rel => exact ⟨j + 1, by go_num, by omega, HKb, by rw [HFT.out]; exact HLfb, HFRb, HKPb⟩
            case measure => simp [intOf]; omega
          | true =>
            go_wp2_with (at_mapUpdate; refine S.wp_storeV kdC Tryz.underlying95 rfl _ _ _ rfl mb F rfl HLfb.out (nm, ty) (nm, ty, ky, sst, true) HSS.out.2.1 rfl rfl HSS.out.1 (by omega) ?_)
            intro w8 hm8 hg8
            have k8 : S.Kpt [mb] (wr.alloc (.cells #[.string nm, .string ty, .string ky, .bool sst, .bool true] 104)) w8 := .of_grown hg8 (fun g e => by cases e; exact .inl (by simp))
            have nsg : ¬ okSg (wr.alloc (.cells #[.string nm, .string ty, .string ky, .bool sst, .bool true] 104)) mb := by
              obtain ⟨es, k, h2⟩ := HLfb.out.map
              exact not_sg h2 (fun _ _ e => by cases e)
            have HK8 := Lib.hid (HKb.out.kpt k8 (fun x hx => by rw [List.mem_singleton.1 hx]; exact ⟨hNm, hml.1, hml.2, nsg⟩))
            have HKP8 : Hid (S.Kpt [fb, mb] w5 w8) := Lib.hid (HKPb.out.trans k8 (fun y hy => .inl (by rw [List.mem_singleton.1 hy]; simp)))
            have HFR8 : Hid (RdX 5 (sP sgC) (okSg w8) w8 (.slice (some ⟨g, goff, none⟩) ss.length fc) ss) := Lib.hid (HFRb.out.step (sP.grow _) (fun b hb hl => by
                have hne : b ≠ mb := fun e => nsg (e ▸ hb)
                obtain ⟨cs, fr, e⟩ := hb
                exact ⟨cs, fr, (k8.2 b hl (by simpa using hne)).trans e⟩) (fun b hb hl => k8.2 b hl (by have hne : b ≠ mb := fun e => nsg (e ▸ hb); simpa using hne)) k8.size)
            have HLf8 := Lib.hid hm8
            clear hm8 hg8 k8 nsg HKb HLfb HKPb HFRb y0 y1 y2 y3 y4
            go_wp2_with fail
            go_roundw
            case rel => exact ⟨j + 1, by go_num, by omega, HK8, by rw [HFT.out]; exact HLf8, HFR8, HKP8⟩
            case measure => simp [intOf]; omega
        · have hjl' : ¬ (j : Int) < (ss.length : Int) := by omega
          obtain rfl : j = ss.length := by omega
          rw [List.take_length] at HLf
          go_wp2_with fail
          go_roundw
          case rel => exact ⟨i + 1, by go_num, by omega, HK, by rw [HTK.out]; exact HLf, HKP⟩
          case measure => simp [intOf]; omega
    · have hlt' : ¬ (i : Int) < (B.length : Int) := by omega
      obtain rfl : i = B.length := by omega
      rw [List.take_length] at HLf
      have hAl := abs_len HA.out B
      obtain ⟨A, hA⟩ : ∃ y, absL K B [] = y := ⟨_, rfl⟩
      rw [hA] at HLf HLE hAl
      have hAl : A.length ≤ 9000 := by omega
      clear hA hlt hlt' hi HRB
      have HK5 := HK
      have HL5 : Hid (Lf wr mb (doneL K (C.take 0) A)) := HLf
      have HKP5 := HKP
      clear HK HLf HKP
      go_wp2_with fail
      go_loopw [55] (fun x wr => ∃ i : Nat, x = .int .i64 (i : Int) ∧ i ≤ C.length ∧ Hid (LkW wr N lb fb tb mt vs K) ∧ Hid (Lf wr mb (doneL K (C.take i) A)) ∧ Hid (S.Kpt [fb, mb] w5 wr)) (fun x _ => C.length - (intOf x).toNat)
      case atStart => exact ⟨0, rfl, by omega, HK5, HL5, HKP5⟩
      case round =>
        clear HK5 HL5 HKP5
        obtain ⟨i, rfl, hi, HK, HLf, HKP⟩ := hrel
        by_cases hlt : i < C.length
        · obtain ⟨x, hx⟩ : ∃ x, C[i]? = some x := ⟨_, List.getElem?_eq_getElem hlt⟩
          obtain ⟨b, off, rfl, -, -, hbk, hbb, hc⟩ := rdX_at HRC.out hx
          have hlt' : (i : Int) < (C.length : Int) := by omega
          have i0 : (0 : Int) ≤ (i : Int) := by omega
          have hc2 : wr.cell? ⟨b, off + i, none⟩ = some (.string x) := by rw [World.cell?_of_block (w := w5) (a := ⟨b, off + i, none⟩) (HKP.out.2 b hbb hbk)]; exact hc
          obtain ⟨hkn, hxs⟩ := HKN.out x (HCB.out x (List.mem_of_getElem? hx))
          have HTK := Lib.hid (done_take K hx A)
          have hL0 : (doneL K (C.take i) A).length ≤ 9000 := by
            have h1 := outF_len ((C.take i).flatMap (sgsK K)) A; have h2 := hAl; unfold doneL
            omega
          obtain ⟨L0, hL0e⟩ : ∃ y, doneL K (C.take i) A = y := ⟨_, rfl⟩
          rw [hL0e] at HLf HTK hL0
          clear hx hc hL0e
          go_wp2_with fail
          refine (face_h N lb fb tb mt vs K x wr HK.out hxs HA.out (ask_known hkn)).mono ?_
          rintro e w6 ⟨⟨fk, fp, fn, fc⟩, rfl, hfv, hk6, hp6⟩
          obtain ⟨-, efn, hfr⟩ := hfv
          have hsk := sgs_len HA.out x
          have HSO : Hid (∀ s ∈ sgsK K x, SgOk s) := Lib.hid (fun s hs => sg_ok HA.out hs)
          dsimp only [fmk] at efn hfr ⊢
          subst efn
          obtain ⟨ss, hss⟩ : ∃ y, sgsK K x = y := ⟨_, rfl⟩
          rw [hss] at hfr HTK hsk HSO ⊢
          have HLf6 := Lib.hid (HLf.out.kpt hp6 (by simp; exact hml.2))
          have HKP6 : Hid (S.Kpt [fb, mb] w5 w6) := Lib.hid (HKP.out.trans hp6 (fun y hy => .inl (by rw [List.mem_singleton.1 hy]; simp)))
          have HK6 := Lib.hid hk6
          have HFR6 := Lib.hid hfr
          clear hfr hk6 hp6 HK HLf HKP hss hc2 hkn hxs
          have hfs := field_signs fk fp ss.length fc w6
          go_wp2_with fail
          clear hfs
          go_loopw [64] (fun x wr => ∃ j : Nat, x = .int .i64 (j : Int) ∧ j ≤ ss.length ∧ Hid (LkW wr N lb fb tb mt vs K) ∧ Hid (Lf wr mb ((ss.take j).foldl outS L0)) ∧ Hid (RdX 5 (sP sgC) (okSg wr) wr (.slice fp ss.length fc) ss) ∧ Hid (S.Kpt [fb, mb] w5 wr)) (fun x _ => ss.length - (intOf x).toNat)
          case atStart => exact ⟨0, rfl, by omega, HK6, HLf6, HFR6, HKP6⟩
          case round =>
            clear HK6 HLf6 HFR6 HKP6
            obtain ⟨j, rfl, hj, HK, HLf, HFR, HKP⟩ := hrel
            by_cases hjl : j < ss.length
            · obtain ⟨s, hs⟩ : ∃ s, ss[j]? = some s := ⟨_, List.getElem?_eq_getElem hjl⟩
              have hjl' : (j : Int) < (ss.length : Int) := by omega
              have j0 : (0 : Int) ≤ (j : Int) := by omega
              have hne : ss ≠ [] := by rintro rfl; simp at hjl
              obtain ⟨g, goff, rfl, -, -, hgk, hgl, hcells⟩ := HFR.out.place hne
              obtain ⟨l, rfl, hcell⟩ := hcells _ _ hs
              have HSS := Lib.hid (HSO.out s (List.mem_of_getElem? hs))
              have HFT := Lib.hid (fold_take outS L0 hs)
              have hFL : ((ss.take j).foldl outS L0).length ≤ 9100 := by
                have h1 := outF_len (ss.take j) L0
                skip
                omega
              obtain ⟨F, hF⟩ : ∃ y, (ss.take j).foldl outS L0 = y := ⟨_, rfl⟩
              rw [hF] at HLf HFT hFL
              obtain ⟨nm, ty, ky, sst, sab⟩ := s
              obtain ⟨y0, y1, y2, y3, y4⟩ := five_at (show CellsAt wr g (goff + j * 5) [.string nm, .string ty, .string ky, .bool sst, .bool sab] from hcell)
              have hgn : g ≠ wr.heap.size := by omega
              have HBX := Lib.hid (below_alR wr (.cells #[.string nm, .string ty, .string ky, .bool sst, .bool sab] 104))
              have HKb := Lib.hid (HK.out.below HBX.out)
              have HLfb := Lib.hid (HLf.out.kpt (S.Kpt.of_below (S := []) HBX.out) (by simp))
              have HKPb : Hid (S.Kpt [fb, mb] w5 (wr.alloc (.cells #[.string nm, .string ty, .string ky, .bool sst, .bool sab] 104))) := Lib.hid (HKP.out.trans (S.Kpt.of_below (S := []) HBX.out) (fun y hy => by cases hy))
              have hkx : S.Kpt [] wr (wr.alloc (.cells #[.string nm, .string ty, .string ky, .bool sst, .bool sab] 104)) := S.Kpt.of_below HBX.out
              have HFRb : Hid (RdX 5 (sP sgC) (okSg (wr.alloc (.cells #[.string nm, .string ty, .string ky, .bool sst, .bool sab] 104))) (wr.alloc (.cells #[.string nm, .string ty, .string ky, .bool sst, .bool sab] 104)) (.slice (some ⟨g, goff, none⟩) ss.length fc) ss) := Lib.hid (HFR.out.step (sP.grow _) (fun b hb hl => by obtain ⟨cs, fr, e⟩ := hb; exact ⟨cs, fr, (hkx.2 b hl (by simp)).trans e⟩) (fun b _ hl => hkx.2 b hl (by simp)) hkx.size)
              clear hcells hcell hne hs hF HK HLf HFR HKP hkx hgk HBX
              cases sst with
              | true =>
                go_wp2_with fail
                go_roundw
                case rel => exact ⟨j + 1, by go_num, by omega, HKb, by rw [HFT.out]; exact HLfb, HFRb, HKPb⟩
                case measure => simp [intOf]; omega
              | false =>
                cases sab with
                | true =>
                  go_wp2_with fail
                  go_roundw
                  case rel => exact ⟨j + 1, by go_num, by omega, HKb, by rw [HFT.out]; exact HLfb, HFRb, HKPb⟩
                  case measure => simp [intOf]; omega
                | false =>
                  go_wp2_with (at_delete; refine S.wp_delV kdC Tryz.underlying95 rfl _ _ rfl mb F rfl HLfb.out (nm, ty) HSS.out.2.1 rfl ?_)
                  intro w8 hm8 hg8
                  have k8 : S.Kpt [mb] (wr.alloc (.cells #[.string nm, .string ty, .string ky, .bool false, .bool false] 104)) w8 := .of_grown hg8 (fun g e => by cases e; exact .inl (by simp))
                  have nsg : ¬ okSg (wr.alloc (.cells #[.string nm, .string ty, .string ky, .bool false, .bool false] 104)) mb := by
                    obtain ⟨es, k, h2⟩ := HLfb.out.map
                    exact not_sg h2 (fun _ _ e => by cases e)
                  have HK8 := Lib.hid (HKb.out.kpt k8 (fun x hx => by rw [List.mem_singleton.1 hx]; exact ⟨hNm, hml.1, hml.2, nsg⟩))
                  have HKP8 : Hid (S.Kpt [fb, mb] w5 w8) := Lib.hid (HKPb.out.trans k8 (fun y hy => .inl (by rw [List.mem_singleton.1 hy]; simp)))
                  have HFR8 : Hid (RdX 5 (sP sgC) (okSg w8) w8 (.slice (some ⟨g, goff, none⟩) ss.length fc) ss) := Lib.hid (HFRb.out.step (sP.grow _) (fun b hb hl => by
                      have hne : b ≠ mb := fun e => nsg (e ▸ hb)
                      obtain ⟨cs, fr, e⟩ := hb
                      exact ⟨cs, fr, (k8.2 b hl (by simpa using hne)).trans e⟩) (fun b hb hl => k8.2 b hl (by have hne : b ≠ mb := fun e => nsg (e ▸ hb); simpa using hne)) k8.size)
                  have HLf8 := Lib.hid hm8
                  clear hm8 hg8 k8 nsg HKb HLfb HKPb HFRb y0 y1 y2 y3 y4
                  go_wp2_with fail
                  go_roundw
                  case rel => exact ⟨j + 1, by go_num, by omega, HK8, by rw [HFT.out]; exact HLf8, HFR8, HKP8⟩
                  case measure => simp [intOf]; omega
            · have hjl' : ¬ (j : Int) < (ss.length : Int) := by omega
              obtain rfl : j = ss.length := by omega
              rw [List.take_length] at HLf
              go_wp2_with fail
              go_roundw
              case rel => exact ⟨i + 1, by go_num, by omega, HK, by rw [HTK.out]; exact HLf, HKP⟩
              case measure => simp [intOf]; omega
        · have hlt' : ¬ (i : Int) < (C.length : Int) := by omega
          obtain rfl : i = C.length := by omega
          rw [List.take_length] at HLf
          have hnd : (leftK K n).map keyC = missK K n := rfl
          rw [← HLE.out] at HLf
          have hll : (leftK K n).length ≤ 9000 := by
            have h1 := outF_len (C.flatMap (sgsK K)) A
            rw [HLE.out]
            unfold doneL
            omega
          go_wp2_with fail
          refine (keys_h mb (leftK K n) wr HLf.out (by rw [hnd]; exact HD.out) (by omega)).mono ?_
          rw [hnd]
          rintro e w9 ⟨v, R, rfl, ho9, hs9, hm9, hb9⟩
          have HO9 := Lib.hid (ho9.mono (Nat.le_trans HB5.out.size HKP.out.size))
          have HS9 := Lib.hid hs9
          have HM9 := Lib.hid hm9
          have HK9 := Lib.hid (HK.out.below hb9)
          have HKP9 : Hid (S.Kpt [fb] w w9) := Lib.hid ((((S.Kpt.of_below (S := [fb, mb]) HB5.out).trans HKP.out (fun y hy => .inl hy)).trans (S.Kpt.of_below (S := [fb, mb]) hb9) (fun y hy => .inl hy)).mono (fun y hy hl => by
            rcases List.mem_cons.1 hy with e | hy
            · rw [e]; simp
            · rw [List.mem_singleton.1 hy] at hl; omega))
          clear ho9 hs9 hm9 hb9 HK HKP HLf HD
          go_wp2_with fail
          go_ret
          exact ⟨v, R, rfl, HO9.out, HS9.out, HM9.out, HK9.out, HKP9.out⟩
end Go.Proofs.YtlmpnmnfloeoiaaGreat.R
