/- Texts that the proof is made of, joined. No condition. -/
import Derived.Test.YtlmpnmnfloeoiaaGreatC1015
import Derived.Test.YtlmpnmnfloeoiaaGreatC1014
import Derived.Test.YtlmpnmnfloeoiaaGreatC10H
set_option linter.unusedVariables false
set_option linter.unusedSimpArgs false
set_option maxRecDepth 100000
set_option maxHeartbeats 16000000
namespace Go.Proofs.YtlmpnmnfloeoiaaGreat.R
open Go.RowKit Go.Proofs.YtlmpnmnfloeoiaaGreat.D Go.Proofs.YtlmpnmnfloeoiaaGreat.O Go.Proofs.YtlmpnmnfloeoiaaGreat.A
theorem no_sg_step {w w' : World} {Sx : List Nat} {v : Value} {ss : List Sg} (h : RdX 5 (sP sgC) (okSg w) w v ss) (hk : S.Kpt Sx w w') (hS : ∀ x ∈ Sx, ¬ okSg w x) : RdX 5 (sP sgC) (okSg w') w' v ss := by
  have kk : ∀ b, okSg w b → b < w.heap.size → w'.heap[b]? = w.heap[b]? := fun b hb hl => hk.2 b hl (fun hx => hS b hx hb)
  exact h.step (sP.grow _) (fun b hb hl => by obtain ⟨cs, fr, e⟩ := hb; exact ⟨cs, fr, (kk b ⟨cs, fr, e⟩ hl).trans e⟩) kk hk.size
set_option maxHeartbeats 8000000 in
set_option maxRecDepth 100000 in
theorem wrongOverride_h (N lb fb tb mt : Nat) (vs : Value) (K : List Cls) (c : Cls) (pi pf pm : Option Addr) (ci cf cm : Nat) (w : World) (h : LkW w N lb fb tb mt vs K) (ha : AskH K) (hc : AskC K c) (_hr : ClR w N c pi pf pm ci cf cm) (hu : ((sgsK K c.name).map (·.2.2.1)).Nodup) :
    Calls Tryz.prog 39 #[.pointer (some ⟨lb, 0, none⟩), .agg #[.string c.name, .string c.super, .slice pi c.ifaces.length ci, .int .i64 c.kind, .slice pf c.fields.length cf, .slice pm c.methods.length cm]] w fun e w' => e = .returned (.bool (overK K c.name)) ∧ LkW w' N lb fb tb mt vs K ∧ S.Kpt [fb] w w' := by
  obtain ⟨hnz, -, -, -⟩ := hc.sizes h
  have hak := ask_known hc.2.2.1
  have HKO := Lib.hid hc.2.2.1
  have HK := Lib.hid h
  have HA := Lib.hid ha
  have HU := Lib.hid hu
  have HAK := Lib.hid hak
  have HSZ := Lib.hid h.1.2.2.2.2.2
  obtain ⟨hlb, hfb, hlf, c0, c1⟩ := h.cells
  have hNf := h.2.2.2.1
  have hNl := h.2.2.1
  have hbl := both_len ha c.name
  clear h ha _hr hc hu hak c0 c1
  have hmm := @run_makeMap Tryz.prog
  go_enter Tryz.func39, Tryz.ntmps39
  go_upto_region 2 with fail
  clear hmm
  have hB1 : Below w.heap.size w (((w.alloc (.cells #[.string c.name, .string c.super, .slice pi c.ifaces.length ci, .int .i64 c.kind, .slice pf c.fields.length cf, .slice pm c.methods.length cm] 27)).alloc (.map #[] 0)).alloc (.cells #[.map (some (w.heap.size + 1))] 136)) := (((Below.refl _ w).alloc (Nat.le_refl _) _).alloc (by simp) _).alloc (by simp; omega) _
  have hTC : (((w.alloc (.cells #[.string c.name, .string c.super, .slice pi c.ifaces.length ci, .int .i64 c.kind, .slice pf c.fields.length cf, .slice pm c.methods.length cm] 27)).alloc (.map #[] 0)).alloc (.cells #[.map (some (w.heap.size + 1))] 136)).heap[w.heap.size]? = some (.cells #[.string c.name, .string c.super, .slice pi c.ifaces.length ci, .int .i64 c.kind, .slice pf c.fields.length cf, .slice pm c.methods.length cm] 27 (0, 0)) := ((below_alR _ _).block _ (by rw [World.size_alloc, World.size_alloc]; omega)).trans (((below_alR _ _).block _ (by rw [World.size_alloc]; omega)).trans (heap_alloc_new w _))
  have hOW : Ow (((w.alloc (.cells #[.string c.name, .string c.super, .slice pi c.ifaces.length ci, .int .i64 c.kind, .slice pf c.fields.length cf, .slice pm c.methods.length cm] 27)).alloc (.map #[] 0)).alloc (.cells #[.map (some (w.heap.size + 1))] 136)) (w.heap.size + 1) (sgsK K c.name) [] := by
    have h1 := S.Mv.made (tk := 9) (q := S.qS) (ok := S.okS) (mk := smk) (V := fun k s => s ∈ sgsK K c.name ∧ s.2.2.1 = k) (w.alloc (.cells #[.string c.name, .string c.super, .slice pi c.ifaces.length ci, .int .i64 c.kind, .slice pf c.fields.length cf, .slice pm c.methods.length cm] 27))
    rw [World.size_alloc] at h1
    exact h1.kpt (S.Kpt.alloc [] _ _) (by simp)
  have hOB : (((w.alloc (.cells #[.string c.name, .string c.super, .slice pi c.ifaces.length ci, .int .i64 c.kind, .slice pf c.fields.length cf, .slice pm c.methods.length cm] 27)).alloc (.map #[] 0)).alloc (.cells #[.map (some (w.heap.size + 1))] 136)).heap[w.heap.size + 2]? = some (.cells #[.map (some (w.heap.size + 1))] 136 (0, 0)) := by
    have h1 := heap_alloc_new ((w.alloc (.cells #[.string c.name, .string c.super, .slice pi c.ifaces.length ci, .int .i64 c.kind, .slice pf c.fields.length cf, .slice pm c.methods.length cm] 27)).alloc (.map #[] 0)) (.cells #[.map (some (w.heap.size + 1))] 136)
    simpa using h1
  have hz1 : (((w.alloc (.cells #[.string c.name, .string c.super, .slice pi c.ifaces.length ci, .int .i64 c.kind, .slice pf c.fields.length cf, .slice pm c.methods.length cm] 27)).alloc (.map #[] 0)).alloc (.cells #[.map (some (w.heap.size + 1))] 136)).heap.size = w.heap.size + 3 := by simp
  obtain ⟨w1, hw1⟩ : ∃ y, y = ((w.alloc (.cells #[.string c.name, .string c.super, .slice pi c.ifaces.length ci, .int .i64 c.kind, .slice pf c.fields.length cf, .slice pm c.methods.length cm] 27)).alloc (.map #[] 0)).alloc (.cells #[.map (some (w.heap.size + 1))] 136) := ⟨_, rfl⟩
  rw [← hw1] at hB1 hTC hOW hOB hz1 ⊢
  clear hw1
  obtain ⟨ob, hob⟩ : ∃ y, w.heap.size + 2 = y := ⟨_, rfl⟩
  obtain ⟨mb, hmb⟩ : ∃ y, w.heap.size + 1 = y := ⟨_, rfl⟩
  obtain ⟨tc, htc⟩ : ∃ y, w.heap.size = y := ⟨_, rfl⟩
  have hob' : w.heap.size + 1 + 1 = ob := hob
  have hmw : w.heap.size ≤ mb := by omega
  have hne : tc ≠ fb ∧ mb ≠ fb ∧ ob ≠ fb ∧ tc ≠ mb ∧ ob ≠ mb ∧ mb ≠ lb ∧ N ≤ mb := by omega
  rw [hob] at hOB
  rw [hmb] at hOW hOB
  rw [htc] at hTC
  rw [hob', htc]
  have HNE := Lib.hid hne
  have HB1 := Lib.hid hB1
  have HTC := Lib.hid hTC
  have HOB := Lib.hid hOB
  have HOW := Lib.hid hOW
  have HK1 := Lib.hid (HK.out.below hB1)
  have hsk := sgs_len HA.out c.name
  have HSO : Hid (∀ s ∈ sgsK K c.name, SgOk s) := Lib.hid (fun s hs => sg_ok HA.out hs)
  clear hB1 hTC hOB hOW hob hob' hmb htc hne HK
  obtain ⟨tl, x0, x1, x2, x3, x4, x5⟩ := cells6 HTC.out
  go_wp2_with fail
  refine (face_h N lb fb tb mt vs K c.name w1 HK1.out hnz HA.out HAK.out).mono ?_
  rintro e w2 ⟨⟨fk, fp, fn, fc⟩, rfl, hfv, hk2, hp2⟩
  obtain ⟨-, efn, hfr⟩ := hfv
  dsimp only [fmk] at efn hfr ⊢
  subst efn
  obtain ⟨ss, hss⟩ : ∃ y, sgsK K c.name = y := ⟨_, rfl⟩
  have HSS := Lib.hid hss
  rw [hss] at hfr hsk HSO HU HOW ⊢
  have HOW2 := Lib.hid (HOW.out.kpt hp2 (by simp; exact HNE.out.2.1))
  have HK2 := Lib.hid hk2
  have HP2 : Hid (S.Kpt [fb, mb] w1 w2) := Lib.hid (hp2.mono (fun y hy _ => by rw [List.mem_singleton.1 hy]; simp))
  have HFR2 := Lib.hid hfr
  clear hfr hk2 hp2 hss HK1 HOW tl x0 x1 x2 x3 x4 x5
  have hfs := field_signs fk fp ss.length fc w2
  go_wp2_with fail
  clear hfs
  go_loopw [18] (fun x wr => ∃ j : Nat, x = .int .i64 (j : Int) ∧ j ≤ ss.length ∧ Hid (LkW wr N lb fb tb mt vs K) ∧ Hid (Ow wr mb ss (S.onceL ((ss.take j).map (·.2.2.1)))) ∧ Hid (RdX 5 (sP sgC) (okSg wr) wr (.slice fp ss.length fc) ss) ∧ Hid (S.Kpt [fb, mb] w1 wr)) (fun x _ => ss.length - (intOf x).toNat)
  case atStart => exact ⟨0, rfl, by omega, HK2, HOW2, HFR2, HP2⟩
  case round =>
    clear HK2 HOW2 HFR2 HP2
    obtain ⟨j, rfl, hj, HK, HOW, HFR, HKP⟩ := hrel
    by_cases hjl : j < ss.length
    · obtain ⟨s, hs⟩ : ∃ s, ss[j]? = some s := ⟨_, List.getElem?_eq_getElem hjl⟩
      have hjl' : (j : Int) < (ss.length : Int) := by omega
      have j0 : (0 : Int) ≤ (j : Int) := by omega
      have hne : ss ≠ [] := by rintro rfl; simp at hjl
      obtain ⟨g, goff, rfl, -, -, hgk, hgl, hcells⟩ := HFR.out.place hne
      obtain ⟨l, rfl, hcell⟩ := hcells _ _ hs
      have hmem := List.mem_of_getElem? hs
      have HSM := Lib.hid hmem
      have hky := (HSO.out s hmem).2.2
      have HFT := Lib.hid (once_map (fun s : Sg => s.2.2.1) hs)
      have hFL := S.onceL_len ((ss.take j).map (·.2.2.1))
      rw [List.length_map, List.length_take] at hFL
      obtain ⟨PL, hPL⟩ : ∃ y, S.onceL ((ss.take j).map (·.2.2.1)) = y := ⟨_, rfl⟩
      have hPL' : S.onceL ((ss.take j).map fun s : Sg => s.2.2.1) = PL := hPL
      rw [hPL] at HOW hFL
      rw [hPL'] at HFT
      clear hPL hPL'
      obtain ⟨nm, ty, ky, sst, sab⟩ := s
      obtain ⟨y0, y1, y2, y3, y4⟩ := five_at (show CellsAt wr g (goff + j * 5) [.string nm, .string ty, .string ky, .bool sst, .bool sab] from hcell)
      have hgn : g ≠ wr.heap.size := by omega
      have hbx := below_alR wr (.cells #[.string nm, .string ty, .string ky, .bool sst, .bool sab] 104)
      have HKb := Lib.hid (HK.out.below hbx)
      have HOWb := Lib.hid (HOW.out.kpt (S.Kpt.of_below (S := []) hbx) (by simp))
      have HKPb : Hid (S.Kpt [fb, mb] w1 (wr.alloc (.cells #[.string nm, .string ty, .string ky, .bool sst, .bool sab] 104))) := Lib.hid (HKP.out.trans (S.Kpt.of_below (S := []) hbx) (fun y hy => by cases hy))
      have HFRb := Lib.hid (no_sg_step HFR.out (S.Kpt.of_below (S := []) hbx) (fun x hx => by cases hx))
      have hol : ob < wr.heap.size := Nat.lt_of_lt_of_le (Array.getElem?_eq_some_iff.1 HOB.out).1 HKP.out.size
      have o0 : wr.cell? ⟨ob, 0, none⟩ = some (.map (some mb)) := by have := HKP.out.block HOB.out (by simp; exact ⟨HNE.out.2.2.1, HNE.out.2.2.2.2.1⟩); simp [World.cell?, this]
      have hon : ob ≠ wr.heap.size := by omega
      clear hcells hcell hne hs HK HOW HFR HKP hgk hbx hmem
      go_wp2_with (at_mapUpdate; refine S.wp_storeV kdS Tryz.underlying136 rfl _ _ _ rfl mb _ rfl HOWb.out ky (nm, ty, ky, sst, sab) hky rfl rfl ⟨HSM.out, rfl⟩ (by omega) ?_)
      intro w8 hm8 hg8
      have k8 : S.Kpt [mb] (wr.alloc (.cells #[.string nm, .string ty, .string ky, .bool sst, .bool sab] 104)) w8 := .of_grown hg8 (fun g e => by cases e; exact .inl (by simp))
      have nsg : ¬ okSg (wr.alloc (.cells #[.string nm, .string ty, .string ky, .bool sst, .bool sab] 104)) mb := by
        obtain ⟨es, k, h2⟩ := HOWb.out.map
        exact not_sg h2 (fun _ _ e => by cases e)
      have HK8 := Lib.hid (HKb.out.kpt k8 (fun x hx => by rw [List.mem_singleton.1 hx]; exact ⟨HNE.out.2.2.2.2.2.2, HNE.out.2.2.2.2.2.1, HNE.out.2.1, nsg⟩))
      have HKP8 : Hid (S.Kpt [fb, mb] w1 w8) := Lib.hid (HKPb.out.trans k8 (fun y hy => .inl (by rw [List.mem_singleton.1 hy]; simp)))
      have HFR8 := Lib.hid (no_sg_step HFRb.out k8 (fun x hx => by rw [List.mem_singleton.1 hx]; exact nsg))
      have HOW8 := Lib.hid hm8
      clear hm8 hg8 k8 nsg HKb HOWb HKPb HFRb y0 y1 y2 y3 y4 o0 hol hon
      go_wp2_with fail
      go_roundw
      case rel => exact ⟨j + 1, by go_num, by omega, HK8, by rw [HFT.out]; exact HOW8, HFR8, HKP8⟩
      case measure => simp [intOf]; omega
    · have hjl' : ¬ (j : Int) < (ss.length : Int) := by omega
      obtain rfl : j = ss.length := by omega
      rw [List.take_length] at HOW
      have HLL : Hid (∀ k, k ∈ S.onceL (ss.map (·.2.2.1)) ↔ k ∈ ss.map (·.2.2.1)) := Lib.hid (S.onceL_mem _)
      obtain ⟨OL, hOL⟩ : ∃ y, S.onceL (ss.map (·.2.2.1)) = y := ⟨_, rfl⟩
      rw [hOL] at HOW HLL
      clear hOL hjl hjl' hj HFR
      have e78 : ∀ args w, (callFunc 78 args).run Tryz.prog w = .ok (.enter 78 args) w := enters_of Tryz.func78 (by kernel_rfl) rfl
      have HE := Lib.hid e78
      clear e78
      go_upto_region 8 with fail
      have hbd : Below wr.heap.size wr wr.drew := (Below.refl _ _).drew
      have HKr := Lib.hid (HK.out.below hbd)
      have HOWr := Lib.hid (HOW.out.kpt (S.Kpt.of_below (S := []) hbd) (by simp))
      have HKPr : Hid (S.Kpt [fb, mb] w1 wr.drew) := Lib.hid (HKP.out.trans (S.Kpt.of_below (S := [fb, mb]) hbd) (fun y hy => .inl hy))
      have HTCr : Hid (wr.drew.heap[tc]? = some (.cells #[.string c.name, .string c.super, .slice pi c.ifaces.length ci, .int .i64 c.kind, .slice pf c.fields.length cf, .slice pm c.methods.length cm] 27 (0, 0))) := Lib.hid (HKPr.out.block HTC.out (by simp; exact ⟨HNE.out.1, HNE.out.2.2.2.1⟩))
      have HH : Hid (wr.drew.cell? ⟨lb, 0, none⟩ = some (.pointer (some ⟨tb, 0, none⟩)) ∧ wr.drew.cell? ⟨tc, 0, none⟩ = some (.string c.name)) := Lib.hid ⟨HKr.out.cells.2.2.2.1, (cells6 HTCr.out).2.1⟩
      have hs1 := HKPr.out.size
      clear HK HOW HKP hbd
      refine wp_region_held_drew (S := fun W => W.cell? ⟨lb, 0, none⟩ = some (.pointer (some ⟨tb, 0, none⟩)) ∧ W.cell? ⟨tc, 0, none⟩ = some (.string c.name)) (by kernel_rfl) HH.out (fun hHeld => ?_)
      refine wpAnyH_take (i := 0) (oi := _) (v := ?_) (by simp only [List.getElem?_toArray, List.getElem?_cons_zero]; rfl) (by kernel_rfl) (by kernel_rfl) (by kernel_rfl) (by intro _ _ _ h; exact h) (Or.inl ⟨by rfl, fun W hSw => ?_⟩) hHeld ?_
      rotate_left 1
      · (clear hSw; first | (go_simp; done) | (go_simp; with_reducible rfl))
      try go_frame
      refine wpAnyH_take (i := 1) (oi := _) (v := ?_) (by simp only [List.getElem?_toArray, List.getElem?_cons_succ, List.getElem?_cons_zero]; rfl) (by kernel_rfl) (by kernel_rfl) (by kernel_rfl) (by intro _ _ _ h; exact h) (Or.inl ⟨by rfl, fun W hSw => ?_⟩) hHeld ?_
      rotate_left 1
      · (clear hSw; first | (go_simp; done) | (go_simp; with_reducible rfl))
      try go_frame
      refine wpAnyH_take (i := 2) (oi := _) (v := ?_) (by simp only [List.getElem?_toArray, List.getElem?_cons_succ, List.getElem?_cons_zero]; rfl) (by kernel_rfl) (by kernel_rfl) (by kernel_rfl) (by intro _ _ _ h; exact h) (Or.inl ⟨by rfl, fun W hSw => ?_⟩) hHeld ?_
      rotate_left 1
      · (clear hSw; first | (go_simp; done) | (go_simp; with_reducible rfl))
      try go_frame
      refine wpAnyH_take (i := 3) (oi := _) (v := ?_) (by simp only [List.getElem?_toArray, List.getElem?_cons_succ, List.getElem?_cons_zero]; rfl) (by kernel_rfl) (by kernel_rfl) (by kernel_rfl) (by intro _ _ _ h; exact h) (Or.inl ⟨by rfl, fun W hSw => ?_⟩) hHeld ?_
      rotate_left 1
      · (try dsimp only at hSw); first | (go_simp; done) | (go_simp; with_reducible rfl)
      try go_frame
      refine wpAnyH_take (i := 4) (oi := _) (v := ?_) (by simp only [List.getElem?_toArray, List.getElem?_cons_succ, List.getElem?_cons_zero]; rfl) (by kernel_rfl) (by kernel_rfl) (by kernel_rfl) (by intro _ _ _ h; exact h) (Or.inl ⟨by rfl, fun W hSw => ?_⟩) hHeld ?_
      rotate_left 1
      · (clear hSw; first | (go_simp; done) | (go_simp; with_reducible rfl))
      try go_frame
      refine wpAnyH_take (i := 5) (oi := _) (v := ?_) (by simp only [List.getElem?_toArray, List.getElem?_cons_succ, List.getElem?_cons_zero]; rfl) (by kernel_rfl) (by kernel_rfl) (by kernel_rfl) (by intro _ _ _ h; exact h) (Or.inl ⟨by rfl, fun W hSw => ?_⟩) hHeld ?_
      rotate_left 1
      · (try dsimp only at hSw); first | (go_simp; done) | (go_simp; with_reducible rfl)
      try go_frame
      refine wpAnyH_take (i := 7) (oi := _) (v := ?_) (by simp only [List.getElem?_toArray, List.getElem?_cons_succ, List.getElem?_cons_zero]; rfl) (by kernel_rfl) (by kernel_rfl) (by kernel_rfl) (by intro _ _ _ h; exact h) (Or.inl ⟨by rfl, fun W hSw => ?_⟩) hHeld ?_
      rotate_left 1
      · (clear hSw; first | (go_simp; done) | (go_simp; with_reducible rfl))
      try go_frame
      refine wpAnyH_take (i := 8) (oi := _) (v := ?_) (by simp only [List.getElem?_toArray, List.getElem?_cons_succ, List.getElem?_cons_zero]; rfl) (by kernel_rfl) (by kernel_rfl) (by kernel_rfl) (by intro _ _ _ h; exact h) (Or.inl ⟨by rfl, fun W hSw => ?_⟩) hHeld ?_
      rotate_left 1
      · (clear hSw; first | (go_simp; done) | (go_simp; with_reducible rfl))
      try go_frame
      refine wpAnyH_take (i := 9) (oi := _) (v := ?_) (by simp only [List.getElem?_toArray, List.getElem?_cons_succ, List.getElem?_cons_zero]; rfl) (by kernel_rfl) (by kernel_rfl) (by kernel_rfl) (by intro _ _ _ h; exact h) (Or.inl ⟨by rfl, fun W hSw => ?_⟩) hHeld ?_
      rotate_left 1
      · (clear hSw; first | (go_simp; done) | (go_simp; with_reducible rfl))
      try go_frame
      refine wpAnyH_take (i := 10) (oi := _) (v := ?_) (by simp only [List.getElem?_toArray, List.getElem?_cons_succ, List.getElem?_cons_zero]; rfl) (by kernel_rfl) (by kernel_rfl) (by kernel_rfl) (by intro _ _ _ h; exact h) (Or.inl ⟨by rfl, fun W hSw => ?_⟩) hHeld ?_
      rotate_left 1
      · (try dsimp only at hSw); first | (go_simp; done) | (go_simp; with_reducible rfl)
      try go_frame
      refine wpAnyH_take (i := 11) (oi := _) (v := ?_) (by simp only [List.getElem?_toArray, List.getElem?_cons_succ, List.getElem?_cons_zero]; rfl) (by kernel_rfl) (by kernel_rfl) (by kernel_rfl) (by intro _ _ _ h; exact h) (Or.inl ⟨by rfl, fun W hSw => ?_⟩) hHeld ?_
      rotate_left 1
      · (clear hSw; first | (go_simp; done) | (go_simp; with_reducible rfl))
      try go_frame
      refine wpAnyH_take (i := 12) (oi := _) (v := ?_) (by simp only [List.getElem?_toArray, List.getElem?_cons_succ, List.getElem?_cons_zero]; rfl) (by kernel_rfl) (by kernel_rfl) (by kernel_rfl) (by intro _ _ _ h; exact h) (Or.inl ⟨by rfl, fun W hSw => ?_⟩) hHeld ?_
      rotate_left 1
      · (try dsimp only at hSw); first | (go_simp; done) | (go_simp; with_reducible rfl)
      try go_frame
      refine wpAnyH_take (i := 17) (oi := _) (v := ?_) (by simp only [List.getElem?_toArray, List.getElem?_cons_succ, List.getElem?_cons_zero]; rfl) (by kernel_rfl) (by kernel_rfl) (by kernel_rfl) (by intro _ _ _ h; exact h) (Or.inl ⟨by rfl, fun W hSw => ?_⟩) hHeld ?_
      rotate_left 1
      · (clear hSw; first | (go_simp; done) | (go_simp; with_reducible rfl))
      try go_frame
      refine wpAnyH_ready (rs := [6]) (by kernel_rfl) (by simp) ?_
      refine AllReadyH.cons (o := _) (by simp only [List.getElem?_toArray, List.getElem?_cons_succ, List.getElem?_cons_zero]; rfl) (fun KX hKX => ?_) AllReadyH.nil
      clear hHeld
      go_simp
      refine (Chain_t _ tb mt vs K c.name _ HKr.out.1 hnz).mono ?_
      rintro e w3 ⟨p1, cp1, rfl, ho3, hb3⟩
      replace HKr := Lib.hid (HKr.out.below hb3)
      replace HOWr := Lib.hid (HOWr.out.kpt (S.Kpt.of_below (S := []) hb3) (by simp))
      replace HKPr : Hid (S.Kpt [fb, mb] w1 (w3)) := Lib.hid (HKPr.out.trans (S.Kpt.of_below (S := [fb, mb]) hb3) (fun y hy => .inl hy))
      replace HTCr : Hid ((w3).heap[tc]? = some (.cells #[.string c.name, .string c.super, .slice pi c.ifaces.length ci, .int .i64 c.kind, .slice pf c.fields.length cf, .slice pm c.methods.length cm] 27 (0, 0))) := Lib.hid (HKPr.out.block HTC.out (by simp; exact ⟨HNE.out.1, HNE.out.2.2.2.1⟩))
      replace HH : Hid ((w3).cell? ⟨lb, 0, none⟩ = some (.pointer (some ⟨tb, 0, none⟩)) ∧ (w3).cell? ⟨tc, 0, none⟩ = some (.string c.name)) := Lib.hid ⟨HKr.out.cells.2.2.2.1, (cells6 HTCr.out).2.1⟩
      have HC := Lib.hid ho3
      have hs3 := hb3.size
      clear ho3 hb3
      refine hKX.out _ _ HH.out (fun hHeld => ?_)
      clear hKX KX
      try go_frame
      refine wpAnyH_ready (rs := [13]) (by kernel_rfl) (by simp) ?_
      refine AllReadyH.cons (o := _) (by simp only [List.getElem?_toArray, List.getElem?_cons_succ, List.getElem?_cons_zero]; rfl) (fun KX hKX => ?_) AllReadyH.nil
      clear hHeld
      go_simp
      refine (Ifaces_t _ tb mt vs K c.name _ HKr.out.1 hnz).mono ?_
      rintro e w4 ⟨p2, cp2, rfl, ho4, hb4⟩
      replace HKr := Lib.hid (HKr.out.below hb4)
      replace HOWr := Lib.hid (HOWr.out.kpt (S.Kpt.of_below (S := []) hb4) (by simp))
      replace HKPr : Hid (S.Kpt [fb, mb] w1 (w4)) := Lib.hid (HKPr.out.trans (S.Kpt.of_below (S := [fb, mb]) hb4) (fun y hy => .inl hy))
      replace HTCr : Hid ((w4).heap[tc]? = some (.cells #[.string c.name, .string c.super, .slice pi c.ifaces.length ci, .int .i64 c.kind, .slice pf c.fields.length cf, .slice pm c.methods.length cm] 27 (0, 0))) := Lib.hid (HKPr.out.block HTC.out (by simp; exact ⟨HNE.out.1, HNE.out.2.2.2.1⟩))
      replace HH : Hid ((w4).cell? ⟨lb, 0, none⟩ = some (.pointer (some ⟨tb, 0, none⟩)) ∧ (w4).cell? ⟨tc, 0, none⟩ = some (.string c.name)) := Lib.hid ⟨HKr.out.cells.2.2.2.1, (cells6 HTCr.out).2.1⟩
      replace HC := Lib.hid (HC.out.kpt (S.Kpt.of_below (S := []) hb4) (by simp))
      have HI := Lib.hid ho4
      have hs4 := hb4.size
      clear ho4 hb4
      refine hKX.out _ _ HH.out (fun hHeld => ?_)
      clear hKX KX
      try go_frame
      refine wpAnyH_ready (rs := [14]) (by kernel_rfl) (by simp) ?_
      refine AllReadyH.cons (o := _) (by simp only [List.getElem?_toArray, List.getElem?_cons_succ, List.getElem?_cons_zero]; rfl) (fun KX hKX => ?_) AllReadyH.nil
      clear hHeld
      go_simp
      have hb5 := below_alR w4 (.cells #[.slice p1 (chainT (K.map skOf) c.name).1.length cp1, .slice p2 (ifacesT (K.map skOf) c.name).length cp2] 23)
      replace HKr := Lib.hid (HKr.out.below hb5)
      replace HOWr := Lib.hid (HOWr.out.kpt (S.Kpt.of_below (S := []) hb5) (by simp))
      replace HKPr : Hid (S.Kpt [fb, mb] w1 (w4.alloc (.cells #[.slice p1 (chainT (K.map skOf) c.name).1.length cp1, .slice p2 (ifacesT (K.map skOf) c.name).length cp2] 23))) := Lib.hid (HKPr.out.trans (S.Kpt.of_below (S := [fb, mb]) hb5) (fun y hy => .inl hy))
      replace HTCr : Hid ((w4.alloc (.cells #[.slice p1 (chainT (K.map skOf) c.name).1.length cp1, .slice p2 (ifacesT (K.map skOf) c.name).length cp2] 23)).heap[tc]? = some (.cells #[.string c.name, .string c.super, .slice pi c.ifaces.length ci, .int .i64 c.kind, .slice pf c.fields.length cf, .slice pm c.methods.length cm] 27 (0, 0))) := Lib.hid (HKPr.out.block HTC.out (by simp; exact ⟨HNE.out.1, HNE.out.2.2.2.1⟩))
      replace HH : Hid ((w4.alloc (.cells #[.slice p1 (chainT (K.map skOf) c.name).1.length cp1, .slice p2 (ifacesT (K.map skOf) c.name).length cp2] 23)).cell? ⟨lb, 0, none⟩ = some (.pointer (some ⟨tb, 0, none⟩)) ∧ (w4.alloc (.cells #[.slice p1 (chainT (K.map skOf) c.name).1.length cp1, .slice p2 (ifacesT (K.map skOf) c.name).length cp2] 23)).cell? ⟨tc, 0, none⟩ = some (.string c.name)) := Lib.hid ⟨HKr.out.cells.2.2.2.1, (cells6 HTCr.out).2.1⟩
      replace HC := Lib.hid (HC.out.kpt (S.Kpt.of_below (S := []) hb5) (by simp))
      replace HI := Lib.hid (HI.out.kpt (S.Kpt.of_below (S := []) hb5) (by simp))
      have HX5 := Lib.hid (heap_alloc_new w4 (.cells #[.slice p1 (chainT (K.map skOf) c.name).1.length cp1, .slice p2 (ifacesT (K.map skOf) c.name).length cp2] 23))
      clear hb5
      refine hKX.out _ _ HH.out (fun hHeld => ?_)
      clear hKX KX
      try go_frame
      refine wpAnyH_ready (rs := [15]) (by kernel_rfl) (by simp) ?_
      refine AllReadyH.cons (o := _) (by simp only [List.getElem?_toArray, List.getElem?_cons_succ, List.getElem?_cons_zero]; rfl) (fun KX hKX => ?_) AllReadyH.nil
      clear hHeld
      go_simp
      refine (concat_h w4.heap.size _ cp1 _ cp2 p1 p2 (chainT (K.map skOf) c.name).1 (ifacesT (K.map skOf) c.name) anyB _ HX5.out ((own_rdX HC.out).step (sP.grow _) (fun _ _ _ => trivial) (fun _ _ _ => rfl) (Nat.le_refl _)) ((own_rdX HI.out).step (sP.grow _) (fun _ _ _ => trivial) (fun _ _ _ => rfl) (Nat.le_refl _)) (by have h1 := hbl; unfold bothK at h1; rw [List.length_append] at h1; omega)).mono ?_
      rw [show (chainT (K.map skOf) c.name).1 ++ ifacesT (K.map skOf) c.name = bothK K c.name from rfl]
      rintro e w6 ⟨pB, cB, rfl, ho6, hb6⟩
      replace HKr := Lib.hid (HKr.out.below hb6)
      replace HOWr := Lib.hid (HOWr.out.kpt (S.Kpt.of_below (S := []) hb6) (by simp))
      replace HKPr : Hid (S.Kpt [fb, mb] w1 (w6)) := Lib.hid (HKPr.out.trans (S.Kpt.of_below (S := [fb, mb]) hb6) (fun y hy => .inl hy))
      replace HTCr : Hid ((w6).heap[tc]? = some (.cells #[.string c.name, .string c.super, .slice pi c.ifaces.length ci, .int .i64 c.kind, .slice pf c.fields.length cf, .slice pm c.methods.length cm] 27 (0, 0))) := Lib.hid (HKPr.out.block HTC.out (by simp; exact ⟨HNE.out.1, HNE.out.2.2.2.1⟩))
      replace HH : Hid ((w6).cell? ⟨lb, 0, none⟩ = some (.pointer (some ⟨tb, 0, none⟩)) ∧ (w6).cell? ⟨tc, 0, none⟩ = some (.string c.name)) := Lib.hid ⟨HKr.out.cells.2.2.2.1, (cells6 HTCr.out).2.1⟩
      have HRB : Hid (RdX 1 (sP strC) (fun b => b ∉ [fb]) w6 (.slice pB (bothK K c.name).length cB) (bothK K c.name)) := Lib.hid ((own_rdX ho6).step (sP.grow _) (fun b hb _ => by have h5 : (w4.alloc (.cells #[.slice p1 (chainT (K.map skOf) c.name).1.length cp1, .slice p2 (ifacesT (K.map skOf) c.name).length cp2] 23)).heap.size = w4.heap.size + 1 := World.size_alloc _ _; simp only [List.mem_singleton]; omega) (fun _ _ _ => rfl) (Nat.le_refl _))
      clear ho6 hb6 HC HI HX5
      refine hKX.out _ _ HH.out (fun hHeld => ?_)
      clear hKX KX
      try go_frame
      refine wpAnyH_take (i := 16) (oi := _) (v := ?_) (by simp only [List.getElem?_toArray, List.getElem?_cons_succ, List.getElem?_cons_zero]; rfl) (by kernel_rfl) (by kernel_rfl) (by kernel_rfl) (by intro _ _ _ h; exact h) (Or.inl ⟨by rfl, fun W hSw => ?_⟩) hHeld ?_
      rotate_left 1
      · (clear hSw; first | (go_simp; done) | (go_simp; with_reducible rfl))
      try go_frame
      refine wpAnyH_done (by kernel_rfl) ?_ _
      clear hHeld HH HTCr
      have HKN : Hid (∀ x ∈ bothK K c.name, knownT (K.map skOf) x = true ∧ x.size ≤ maxLen) := Lib.hid (fun x hx => ⟨both_known hx, HSZ.out.kn (l := [x]) ⟨by simp, fun y hy => by rw [List.mem_singleton.1 hy]; exact both_known hx⟩ x (by simp)⟩)
      have HOV : Hid (overK K c.name = (bothK K c.name).any fun x => (sgsK K x).any (unlikeB ss)) := Lib.hid (by unfold overK; rw [HSS.out])
      have HOBr : Hid (w6.heap[ob]? = some (.cells #[.map (some mb)] 136 (0, 0))) := Lib.hid (HKPr.out.block HOB.out (by simp; exact ⟨HNE.out.2.2.1, HNE.out.2.2.2.2.1⟩))
      have HPF : Hid (S.Kpt [fb] w w6) := Lib.hid (((S.Kpt.of_below (S := [fb, mb]) HB1.out).trans HKPr.out (fun y hy => .inl hy)).mono (fun y hy hl => by
        rcases List.mem_cons.1 hy with e | hy
        · rw [e]; simp
        · rw [List.mem_singleton.1 hy] at hl; omega))
      clear hs1 hs3 hs4 HB1 HKPr
      obtain ⟨B, hB⟩ : ∃ x, bothK K c.name = x := ⟨_, rfl⟩
      rw [hB] at HRB hbl HKN HOV ⊢
      clear hB
      go_wp2_with fail
      go_loopw [45] (fun x wr => ∃ i : Nat, x = .int .i64 (i : Int) ∧ i ≤ B.length ∧ Hid (LkW wr N lb fb tb mt vs K) ∧ Hid (S.Kpt [fb] w6 wr) ∧ Hid (∀ y ∈ B.take i, (sgsK K y).any (unlikeB ss) = false)) (fun x _ => B.length - (intOf x).toNat)
      case atStart => exact ⟨0, rfl, by omega, HKr, Lib.hid (S.Kpt.refl _ _), Lib.hid (fun y hy => by simp at hy)⟩
      case round =>
        clear HKr
        obtain ⟨i, rfl, hi, HK, HKP, HNO⟩ := hrel
        by_cases hlt : i < B.length
        · obtain ⟨x, hx⟩ : ∃ x, B[i]? = some x := ⟨_, List.getElem?_eq_getElem hlt⟩
          obtain ⟨b, off, rfl, -, -, hbk, hbb, hcc⟩ := rdX_at HRB.out hx
          have hlt' : (i : Int) < (B.length : Int) := by omega
          have i0 : (0 : Int) ≤ (i : Int) := by omega
          have hc2 : wr.cell? ⟨b, off + i, none⟩ = some (.string x) := by rw [World.cell?_of_block (w := w6) (a := ⟨b, off + i, none⟩) (HKP.out.2 b hbb hbk)]; exact hcc
          obtain ⟨hkn, hxs⟩ := HKN.out x (List.mem_of_getElem? hx)
          have HX := Lib.hid hx
          clear hx hcc
          go_wp2_with fail
          refine (face_h N lb fb tb mt vs K x wr HK.out hxs HA.out (ask_known hkn)).mono ?_
          rintro e w7 ⟨⟨gk, gp, gn, gc⟩, rfl, hfv, hk7, hp7⟩
          obtain ⟨-, efn, hfr⟩ := hfv
          have hsx := sgs_len HA.out x
          have HSX : Hid (∀ s ∈ sgsK K x, SgOk s) := Lib.hid (fun s hs => sg_ok HA.out hs)
          dsimp only [fmk] at efn hfr ⊢
          subst efn
          have nfb := hk7.notSg
          have HP7 : Hid (S.Kpt [fb] w6 w7) := Lib.hid (HKP.out.trans hp7 (fun y hy => .inl hy))
          have hcon := hasI_sgn gp gc (okSg w7) (sgsK K x) 78 #[.pointer (some ⟨ob, 0, none⟩)] (unlikeB ss) (fun W => LkW W N lb fb tb mt vs K ∧ S.Kpt [] w7 W) w7 ⟨hk7, S.Kpt.refl _ _⟩
            (fun W hW => hfr.step (sP.grow _) (fun _ h _ => h) (fun b _ hl => hW.2.2 b hl (by simp)) hW.2.size) (by omega) HE.out
            (fun W s hs hW => (unlike_h ob mb ss OL s W (hW.2.block (HP7.out.block HOBr.out (by simp; exact HNE.out.2.2.1)) (by simp)) ((HOWr.out.kpt HP7.out (by simp; exact HNE.out.2.1)).kpt hW.2 (by simp)) HLL.out HU.out (HSX.out s hs).2.2).mono (fun e w' hh => ⟨hh.1, hW.1.below hh.2, hW.2.trans (S.Kpt.of_below (S := []) hh.2) (fun y hy => by cases hy)⟩))
          obtain ⟨q, hq⟩ : ∃ y, (sgsK K x).any (unlikeB ss) = y := ⟨_, rfl⟩
          have HQ := Lib.hid hq
          rw [hq] at hcon
          have HC := Lib.hid hcon
          have hfs := field_signs gk gp (sgsK K x).length gc w7
          obtain ⟨sn, hsn⟩ : ∃ y, (sgsK K x).length = y := ⟨_, rfl⟩
          rw [hsn] at HC hfs ⊢
          clear hfr hk7 hp7 HK HKP hq hcon hc2 hkn hxs nfb hsn
          cases q with
          | true =>
            have HR : Hid (overK K c.name = true) := Lib.hid (by rw [HOV.out, List.any_eq_true]; exact ⟨x, List.mem_of_getElem? HX.out, HQ.out⟩)
            go_wp2_with (go_at_call 79; refine HC.out.mono ?_; rintro e w8 ⟨rfl, hk8, hp8⟩; have HK8 := Lib.hid hk8; have HP8 := Lib.hid hp8; clear hk8 hp8)
            go_ret
            exact ⟨by rw [HR.out]; rfl, HK8.out, (HPF.out.trans HP7.out (fun y hy => .inl hy)).trans HP8.out (fun y hy => by cases hy)⟩
          | false =>
            go_wp2_with (go_at_call 79; refine HC.out.mono ?_; rintro e w8 ⟨rfl, hk8, hp8⟩; have HK8 := Lib.hid hk8; have HP8 : Hid (S.Kpt [fb] w6 w8) := Lib.hid (HP7.out.trans hp8 (fun y hy => by cases hy)); clear hk8 hp8)
            have HN2 : Hid (∀ y ∈ B.take (i + 1), (sgsK K y).any (unlikeB ss) = false) := Lib.hid (fun y hy => by rw [take_snoc HX.out] at hy; rcases List.mem_append.1 hy with hy | hy; exact HNO.out y hy; rw [List.mem_singleton.1 hy]; exact HQ.out)
            go_roundw
            case rel => exact ⟨i + 1, by go_num, by omega, HK8, HP8, HN2⟩
            case measure => simp [intOf]; omega
        · have hlt' : ¬ (i : Int) < (B.length : Int) := by omega
          obtain rfl : i = B.length := by omega
          rw [List.take_length] at HNO
          have HR : Hid (overK K c.name = false) := Lib.hid (by rw [HOV.out, List.any_eq_false]; exact fun y hy => by rw [HNO.out y hy]; simp)
          go_wp2_with fail
          go_ret
          exact ⟨by rw [HR.out]; rfl, HK.out, HPF.out.trans HKP.out (fun y hy => .inl hy)⟩
end Go.Proofs.YtlmpnmnfloeoiaaGreat.R
namespace Go.Proofs.YtlmpnmnfloeoiaaGreat.R
open Go.RowKit Go.Proofs.YtlmpnmnfloeoiaaGreat.D Go.Proofs.YtlmpnmnfloeoiaaGreat.O Go.Proofs.YtlmpnmnfloeoiaaGreat.A
set_option maxHeartbeats 8000000 in
set_option maxRecDepth 100000 in
theorem wrong_h (N lb fb tb mt : Nat) (vs : Value) (K : List Cls) (c : Cls) (pi pf pm : Option Addr) (ci cf cm : Nat) (w : World) (h : LkW w N lb fb tb mt vs K) (ha : AskH K) (hc : AskC K c) (hr : ClR w N c pi pf pm ci cf cm) (hd : (missK K c.name).Nodup) :
    Calls Tryz.prog 17 #[.pointer (some ⟨lb, 0, none⟩), .agg #[.string c.name, .string c.super, .slice pi c.ifaces.length ci, .int .i64 c.kind, .slice pf c.fields.length cf, .slice pm c.methods.length cm]] w fun e w' => e = .returned (.int .i64 (wrongK K c)) ∧ LkW w' N lb fb tb mt vs K ∧ S.Kpt [fb] w w' := by
  obtain ⟨hnz, -, -, -⟩ := hc.sizes h
  have HK := Lib.hid h
  have HA := Lib.hid ha
  have HCC := Lib.hid hc
  have HR := Lib.hid hr
  have HD := Lib.hid hd
  obtain ⟨hlb, hfb, hlf, c0, c1⟩ := h.cells
  have hNf := h.2.2.2.1
  clear h ha hr hc hd c0 c1
  have hB1 := below_alR w (.cells #[.string c.name, .string c.super, .slice pi c.ifaces.length ci, .int .i64 c.kind, .slice pf c.fields.length cf, .slice pm c.methods.length cm] 27)
  have hX1 := heap_alloc_new w (.cells #[.string c.name, .string c.super, .slice pi c.ifaces.length ci, .int .i64 c.kind, .slice pf c.fields.length cf, .slice pm c.methods.length cm] 27)
  go_enter Tryz.func17, Tryz.ntmps17
  go_upto_region 1 with fail
  obtain ⟨w1, hw1⟩ : ∃ y, y = w.alloc (.cells #[.string c.name, .string c.super, .slice pi c.ifaces.length ci, .int .i64 c.kind, .slice pf c.fields.length cf, .slice pm c.methods.length cm] 27) := ⟨_, rfl⟩
  rw [← hw1] at hB1 hX1 ⊢
  clear hw1
  obtain ⟨tc, htc⟩ : ∃ y, w.heap.size = y := ⟨_, rfl⟩
  have HNE : Hid (tc ≠ fb) := Lib.hid (by omega)
  have HB1 := Lib.hid hB1
  have HK1 := Lib.hid (HK.out.below hB1)
  have HP1 : Hid (S.Kpt [fb] w1 w1) := Lib.hid (S.Kpt.refl _ _)
  have HR1 := Lib.hid (fun (W : World) (hW : S.Kpt [fb] w1 W) => (HR.out.kpt (S.Kpt.of_below (S := []) hB1) (fun x hx => by cases hx)).kpt hW (fun x hx => by rw [List.mem_singleton.1 hx]; exact hNf))
  rw [htc] at hX1 ⊢
  have HX1 := Lib.hid hX1
  have HW0 : Hid (wrongK K c = if supK K c = true then 24 else if ifsK K c = true then 24 else if loopsT (K.map skOf) c.name = true then 24
    else if fldsK K c = true then 25 else if mthsK K c = true then 25 else if overK K c.name = true then 26 else if lackK K c = true then 27 else 0) := Lib.hid rfl
  clear hB1 hX1 htc HK
  obtain ⟨tl, x0, x1, x2, x3, x4, x5⟩ := cells6 HX1.out
  have hc1 := (wrongSuper_h N lb fb tb mt vs K c pi pf pm ci cf cm w1 HK1.out HA.out HCC.out (HR1.out _ HP1.out))
  obtain ⟨a1, ha1⟩ : ∃ y, supK K c = y := ⟨_, rfl⟩
  rw [ha1] at hc1 HW0
  have HC1 := Lib.hid hc1
  have HE1 := Lib.hid ha1
  clear hc1 ha1
  cases a1 with
  | true =>
    go_wp2_with (go_at_call 34; refine HC1.out.mono ?_; rintro e w2 ⟨rfl, hk2, hp2⟩; have HK2 := Lib.hid hk2; have HP2 : Hid (S.Kpt [fb] w1 w2) := Lib.hid (HP1.out.trans hp2 (fun y hy => .inl hy)); have HX2 := Lib.hid (hp2.block HX1.out (by simpa using HNE.out)); clear hk2 hp2 tl x0 x1 x2 x3 x4 x5; obtain ⟨tl, x0, x1, x2, x3, x4, x5⟩ := cells6 HX2.out)
    go_ret
    exact ⟨by rw [HW0.out]; rfl, HK2.out, (S.Kpt.of_below (S := [fb]) HB1.out).trans HP2.out (fun y hy => .inl hy)⟩
  | false =>
    go_upto_region 2 with (go_at_call 34; refine HC1.out.mono ?_; rintro e w2 ⟨rfl, hk2, hp2⟩; have HK2 := Lib.hid hk2; have HP2 : Hid (S.Kpt [fb] w1 w2) := Lib.hid (HP1.out.trans hp2 (fun y hy => .inl hy)); have HX2 := Lib.hid (hp2.block HX1.out (by simpa using HNE.out)); clear hk2 hp2 tl x0 x1 x2 x3 x4 x5; obtain ⟨tl, x0, x1, x2, x3, x4, x5⟩ := cells6 HX2.out)
    have hc2 := (wrongIfaces_h N lb fb tb mt vs K c pi pf pm ci cf cm w2 HK2.out HA.out HCC.out (HR1.out _ HP2.out))
    obtain ⟨a2, ha2⟩ : ∃ y, ifsK K c = y := ⟨_, rfl⟩
    rw [ha2] at hc2 HW0
    have HC2 := Lib.hid hc2
    have HE2 := Lib.hid ha2
    clear hc2 ha2
    cases a2 with
    | true =>
      go_wp2_with (go_at_call 35; refine HC2.out.mono ?_; rintro e w3 ⟨rfl, hk3, hp3⟩; have HK3 := Lib.hid hk3; have HP3 : Hid (S.Kpt [fb] w1 w3) := Lib.hid (HP2.out.trans hp3 (fun y hy => .inl hy)); have HX3 := Lib.hid (hp3.block HX2.out (by simpa using HNE.out)); clear hk3 hp3 tl x0 x1 x2 x3 x4 x5; obtain ⟨tl, x0, x1, x2, x3, x4, x5⟩ := cells6 HX3.out)
      go_ret
      exact ⟨by rw [HW0.out]; rfl, HK3.out, (S.Kpt.of_below (S := [fb]) HB1.out).trans HP3.out (fun y hy => .inl hy)⟩
    | false =>
      go_upto_region 3 with (go_at_call 35; refine HC2.out.mono ?_; rintro e w3 ⟨rfl, hk3, hp3⟩; have HK3 := Lib.hid hk3; have HP3 : Hid (S.Kpt [fb] w1 w3) := Lib.hid (HP2.out.trans hp3 (fun y hy => .inl hy)); have HX3 := Lib.hid (hp3.block HX2.out (by simpa using HNE.out)); clear hk3 hp3 tl x0 x1 x2 x3 x4 x5; obtain ⟨tl, x0, x1, x2, x3, x4, x5⟩ := cells6 HX3.out)
      have hbd : Below w3.heap.size w3 w3.drew := (Below.refl _ _).drew
      have HK4 := Lib.hid (HK3.out.below hbd)
      have HP4 : Hid (S.Kpt [fb] w1 w3.drew) := Lib.hid (HP3.out.trans (S.Kpt.of_below (S := [fb]) hbd) (fun y hy => .inl hy))
      have HX4 : Hid (w3.drew.heap[tc]? = some (.cells #[.string c.name, .string c.super, .slice pi c.ifaces.length ci, .int .i64 c.kind, .slice pf c.fields.length cf, .slice pm c.methods.length cm] 27 (0, 0))) := Lib.hid HX3.out
      clear tl x0 x1 x2 x3 x4 x5 hbd
      obtain ⟨tl, x0, x1, x2, x3, x4, x5⟩ := cells6 HX4.out
      obtain ⟨-, -, -, c0, c1⟩ := HK4.out.cells
      have hlp := Loops_t _ tb mt vs K c.name w3.drew HK4.out.1 hnz
      obtain ⟨a3, ha3⟩ : ∃ y, loopsT (K.map skOf) c.name = y := ⟨_, rfl⟩
      rw [ha3] at hlp HW0
      have HLP := Lib.hid hlp
      clear ha3 hlp
      cases a3 with
      | true =>
        go_region_law (rw [if_pos (by rfl)]; go_simp; go_at_call 36; refine HLP.out.mono ?_; rintro e w5 ⟨rfl, hb5⟩; have HK5 := Lib.hid (HK4.out.below hb5); have HP5 : Hid (S.Kpt [fb] w1 w5) := Lib.hid (HP4.out.trans (S.Kpt.of_below (S := [fb]) hb5) (fun y hy => .inl hy)); have HX5 : Hid (w5.heap[tc]? = some (.cells #[.string c.name, .string c.super, .slice pi c.ifaces.length ci, .int .i64 c.kind, .slice pf c.fields.length cf, .slice pm c.methods.length cm] 27 (0, 0))) := Lib.hid ((hb5.block _ tl).trans HX4.out); clear hb5)
        all_goals
          go_wp2_with fail
          go_ret
          exact ⟨by rw [HW0.out]; rfl, HK5.out, (S.Kpt.of_below (S := [fb]) HB1.out).trans HP5.out (fun y hy => .inl hy)⟩
      | false =>
        go_region_law (rw [if_pos (by rfl)]; go_simp; go_at_call 36; refine HLP.out.mono ?_; rintro e w5 ⟨rfl, hb5⟩; have HK5 := Lib.hid (HK4.out.below hb5); have HP5 : Hid (S.Kpt [fb] w1 w5) := Lib.hid (HP4.out.trans (S.Kpt.of_below (S := [fb]) hb5) (fun y hy => .inl hy)); have HX5 : Hid (w5.heap[tc]? = some (.cells #[.string c.name, .string c.super, .slice pi c.ifaces.length ci, .int .i64 c.kind, .slice pf c.fields.length cf, .slice pm c.methods.length cm] 27 (0, 0))) := Lib.hid ((hb5.block _ tl).trans HX4.out); clear hb5)
        all_goals
          clear x0 x1 x2 x3 x4 x5 tl c0 c1
          obtain ⟨tl, x0, x1, x2, x3, x4, x5⟩ := cells6 HX5.out
          go_upto_region 5 with fail
          have hc5 := (wrongFields_h N lb fb tb mt vs K c pi pf pm ci cf cm w5 HK5.out HA.out HCC.out (HR1.out _ HP5.out))
          obtain ⟨a5, ha5⟩ : ∃ y, fldsK K c = y := ⟨_, rfl⟩
          rw [ha5] at hc5 HW0
          have HC5 := Lib.hid hc5
          have HE5 := Lib.hid ha5
          clear hc5 ha5
          cases a5 with
          | true =>
            go_wp2_with (go_at_call 37; refine HC5.out.mono ?_; rintro e w6 ⟨rfl, hk6, hp6⟩; have HK6 := Lib.hid hk6; have HP6 : Hid (S.Kpt [fb] w1 w6) := Lib.hid (HP5.out.trans hp6 (fun y hy => .inl hy)); have HX6 := Lib.hid (hp6.block HX5.out (by simpa using HNE.out)); clear hk6 hp6 tl x0 x1 x2 x3 x4 x5; obtain ⟨tl, x0, x1, x2, x3, x4, x5⟩ := cells6 HX6.out)
            go_ret
            exact ⟨by rw [HW0.out]; rfl, HK6.out, (S.Kpt.of_below (S := [fb]) HB1.out).trans HP6.out (fun y hy => .inl hy)⟩
          | false =>
            go_upto_region 6 with (go_at_call 37; refine HC5.out.mono ?_; rintro e w6 ⟨rfl, hk6, hp6⟩; have HK6 := Lib.hid hk6; have HP6 : Hid (S.Kpt [fb] w1 w6) := Lib.hid (HP5.out.trans hp6 (fun y hy => .inl hy)); have HX6 := Lib.hid (hp6.block HX5.out (by simpa using HNE.out)); clear hk6 hp6 tl x0 x1 x2 x3 x4 x5; obtain ⟨tl, x0, x1, x2, x3, x4, x5⟩ := cells6 HX6.out)
            have hc6 := (wrongMethods_h N lb fb tb mt vs K c pi pf pm ci cf cm w6 HK6.out HA.out HCC.out (HR1.out _ HP6.out))
            obtain ⟨a6, ha6⟩ : ∃ y, mthsK K c = y := ⟨_, rfl⟩
            rw [ha6] at hc6 HW0
            have HC6 := Lib.hid hc6
            have HE6 := Lib.hid ha6
            clear hc6 ha6
            cases a6 with
            | true =>
              go_wp2_with (go_at_call 38; refine HC6.out.mono ?_; rintro e w7 ⟨rfl, hk7, hp7⟩; have HK7 := Lib.hid hk7; have HP7 : Hid (S.Kpt [fb] w1 w7) := Lib.hid (HP6.out.trans hp7 (fun y hy => .inl hy)); have HX7 := Lib.hid (hp7.block HX6.out (by simpa using HNE.out)); clear hk7 hp7 tl x0 x1 x2 x3 x4 x5; obtain ⟨tl, x0, x1, x2, x3, x4, x5⟩ := cells6 HX7.out)
              go_ret
              exact ⟨by rw [HW0.out]; rfl, HK7.out, (S.Kpt.of_below (S := [fb]) HB1.out).trans HP7.out (fun y hy => .inl hy)⟩
            | false =>
              go_upto_region 8 with (go_at_call 38; refine HC6.out.mono ?_; rintro e w7 ⟨rfl, hk7, hp7⟩; have HK7 := Lib.hid hk7; have HP7 : Hid (S.Kpt [fb] w1 w7) := Lib.hid (HP6.out.trans hp7 (fun y hy => .inl hy)); have HX7 := Lib.hid (hp7.block HX6.out (by simpa using HNE.out)); clear hk7 hp7 tl x0 x1 x2 x3 x4 x5; obtain ⟨tl, x0, x1, x2, x3, x4, x5⟩ := cells6 HX7.out)
              have hkeys := sgs_keys HCC.out.1 HE6.out
              have hc7 := (wrongOverride_h N lb fb tb mt vs K c pi pf pm ci cf cm w7 HK7.out HA.out HCC.out (HR1.out _ HP7.out) hkeys)
              obtain ⟨a7, ha7⟩ : ∃ y, overK K c.name = y := ⟨_, rfl⟩
              rw [ha7] at hc7 HW0
              have HC7 := Lib.hid hc7
              have HE7 := Lib.hid ha7
              clear hc7 ha7
              cases a7 with
              | true =>
                go_wp2_with (go_at_call 39; refine HC7.out.mono ?_; rintro e w8 ⟨rfl, hk8, hp8⟩; have HK8 := Lib.hid hk8; have HP8 : Hid (S.Kpt [fb] w1 w8) := Lib.hid (HP7.out.trans hp8 (fun y hy => .inl hy)); have HX8 := Lib.hid (hp8.block HX7.out (by simpa using HNE.out)); clear hk8 hp8 tl x0 x1 x2 x3 x4 x5; obtain ⟨tl, x0, x1, x2, x3, x4, x5⟩ := cells6 HX8.out)
                go_ret
                exact ⟨by rw [HW0.out]; rfl, HK8.out, (S.Kpt.of_below (S := [fb]) HB1.out).trans HP8.out (fun y hy => .inl hy)⟩
              | false =>
                go_upto_region 10 with (go_at_call 39; refine HC7.out.mono ?_; rintro e w8 ⟨rfl, hk8, hp8⟩; have HK8 := Lib.hid hk8; have HP8 : Hid (S.Kpt [fb] w1 w8) := Lib.hid (HP7.out.trans hp8 (fun y hy => .inl hy)); have HX8 := Lib.hid (hp8.block HX7.out (by simpa using HNE.out)); clear hk8 hp8 tl x0 x1 x2 x3 x4 x5; obtain ⟨tl, x0, x1, x2, x3, x4, x5⟩ := cells6 HX8.out)
                have hc8 := (wrongAbstract_h N lb fb tb mt vs K c pi pf pm ci cf cm w8 HK8.out HA.out HCC.out (HR1.out _ HP8.out) HD.out)
                obtain ⟨a8, ha8⟩ : ∃ y, lackK K c = y := ⟨_, rfl⟩
                rw [ha8] at hc8 HW0
                have HC8 := Lib.hid hc8
                have HE8 := Lib.hid ha8
                clear hc8 ha8
                cases a8 with
                | true =>
                  go_wp2_with (go_at_call 40; refine HC8.out.mono ?_; rintro e w9 ⟨rfl, hk9, hp9⟩; have HK9 := Lib.hid hk9; have HP9 : Hid (S.Kpt [fb] w1 w9) := Lib.hid (HP8.out.trans hp9 (fun y hy => .inl hy)); have HX9 := Lib.hid (hp9.block HX8.out (by simpa using HNE.out)); clear hk9 hp9 tl x0 x1 x2 x3 x4 x5; obtain ⟨tl, x0, x1, x2, x3, x4, x5⟩ := cells6 HX9.out)
                  go_ret
                  exact ⟨by rw [HW0.out]; rfl, HK9.out, (S.Kpt.of_below (S := [fb]) HB1.out).trans HP9.out (fun y hy => .inl hy)⟩
                | false =>
                  go_wp2_with (go_at_call 40; refine HC8.out.mono ?_; rintro e w9 ⟨rfl, hk9, hp9⟩; have HK9 := Lib.hid hk9; have HP9 : Hid (S.Kpt [fb] w1 w9) := Lib.hid (HP8.out.trans hp9 (fun y hy => .inl hy)); have HX9 := Lib.hid (hp9.block HX8.out (by simpa using HNE.out)); clear hk9 hp9 tl x0 x1 x2 x3 x4 x5; obtain ⟨tl, x0, x1, x2, x3, x4, x5⟩ := cells6 HX9.out)
                  go_ret
                  exact ⟨by rw [HW0.out]; rfl, HK9.out, (S.Kpt.of_below (S := [fb]) HB1.out).trans HP9.out (fun y hy => .inl hy)⟩
end Go.Proofs.YtlmpnmnfloeoiaaGreat.R
