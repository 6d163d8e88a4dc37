/- Texts that the proof is made of, joined. No condition. -/
import Derived.Test.YtlmpnmnfloeoiaaGreatC1012
import Derived.Test.YtlmpnmnfloeoiaaGreatC1013
import Derived.Test.YtlmpnmnfloeoiaaGreatC102
import Derived.Test.YtlmpnmnfloeoiaaGreatC109
import Derived.Deep.RegionHeld3
import Derived.Test.YtlmpnmnfloeoiaaGreatC10H
set_option linter.unusedVariables false
set_option linter.unusedSimpArgs false
set_option maxRecDepth 100000
set_option maxHeartbeats 16000000
namespace Go.Proofs.YtlmpnmnfloeoiaaGreat.R
open Go.RowKit Go.Proofs.YtlmpnmnfloeoiaaGreat.D Go.Proofs.YtlmpnmnfloeoiaaGreat.O Go.Proofs.YtlmpnmnfloeoiaaGreat.A
theorem miss_len {K : List Cls} {n : ByteArray} {R : List ByteArray} (h : ∀ x, x ∈ R ↔ x ∈ missK K n) : decide (0 < R.length) = decide (0 < (leftK K n).length) := by
  rw [decide_eq_decide, List.length_pos_iff_exists_mem, List.length_pos_iff_exists_mem]
  constructor
  · rintro ⟨x, hx⟩
    obtain ⟨y, hy, _⟩ := List.mem_map.1 ((h x).1 hx)
    exact ⟨y, hy⟩
  · rintro ⟨y, hy⟩
    exact ⟨keyC y, (h _).2 (List.mem_map.2 ⟨y, hy, rfl⟩)⟩
theorem miss_few {K : List Cls} (h : AskH K) {n : ByteArray} {R : List ByteArray} (hs : S.Srt S.ltS R) (hm : ∀ x, x ∈ R ↔ x ∈ missK K n) : R.length ≤ 10000 := by
  have h1 : R.length ≤ (missK K n).length := (S.Srt.nodup S.toS hs).length_le_of_subset (fun x hx => (hm x).1 hx)
  have h2 := outF_len ((chainT (K.map skOf) n).1.flatMap (sgsK K)) (absL K (bothK K n) [])
  have h3 := abs_len h (bothK K n)
  have h4 := both_len h n
  have h5 : (missK K n).length = (leftK K n).length := List.length_map _
  have h6 : (leftK K n).length ≤ (absL K (bothK K n) []).length := h2
  omega
set_option maxHeartbeats 4000000 in
set_option maxRecDepth 100000 in
theorem wrongAbstract_h (N lb fb tb mt : Nat) (vs : Value) (K : List Cls) (c : Cls) (pi pf pm : Option Addr) (ci cf cm : Nat) (w : World) (h : LkW w N lb fb tb mt vs K) (ha : AskH K) (hc : AskC K c) (_hr : ClR w N c pi pf pm ci cf cm) (hd : (missK K c.name).Nodup) :
    Calls Tryz.prog 40 #[.pointer (some ⟨lb, 0, none⟩), .agg #[.string c.name, .string c.super, .slice pi c.ifaces.length ci, .int .i64 c.kind, .slice pf c.fields.length cf, .slice pm c.methods.length cm]] w fun e w' => e = .returned (.bool (lackK K c)) ∧ LkW w' N lb fb tb mt vs K ∧ S.Kpt [fb] w w' := by
  obtain ⟨hnz, -, -, -⟩ := hc.sizes h
  have HK := Lib.hid h
  have HA := Lib.hid ha
  have HD := Lib.hid hd
  obtain ⟨hlb, hfb, hlf, c0, c1⟩ := h.cells
  clear h ha _hr hc hd
  have hB1 := below_alR w (.cells #[.string c.name, .string c.super, .slice pi c.ifaces.length ci, .int .i64 c.kind, .slice pf c.fields.length cf, .slice pm c.methods.length cm] 27)
  have hX1 := heap_alloc_new w (.cells #[.string c.name, .string c.super, .slice pi c.ifaces.length ci, .int .i64 c.kind, .slice pf c.fields.length cf, .slice pm c.methods.length cm] 27)
  have HS0 : Hid (lackK K c = ((decide (c.kind = 1) || decide (c.kind = 3)) && decide (0 < (leftK K c.name).length))) := Lib.hid rfl
  go_enter Tryz.func40, Tryz.ntmps40
  go_upto_region 1 with fail
  obtain ⟨w1, hw1⟩ : ∃ y, y = w.alloc (.cells #[.string c.name, .string c.super, .slice pi c.ifaces.length ci, .int .i64 c.kind, .slice pf c.fields.length cf, .slice pm c.methods.length cm] 27) := ⟨_, rfl⟩
  rw [← hw1] at hB1 hX1 ⊢
  clear hw1 c0 c1
  obtain ⟨tc, htc⟩ : ∃ y, w.heap.size = y := ⟨_, rfl⟩
  have HB1 := Lib.hid hB1
  have HK1 := Lib.hid (HK.out.below hB1)
  rw [htc] at hX1 ⊢
  clear hB1 htc HK
  obtain ⟨tl, x0, x1, x2, x3, x4, x5⟩ := cells6 hX1
  clear hX1
  have HM := Lib.hid (missing_h N lb fb tb mt vs K c.name w1 HK1.out hnz HA.out HD.out)
  obtain ⟨kd, hkd⟩ : ∃ y, c.kind = y := ⟨_, rfl⟩
  rw [hkd] at HS0 x3 ⊢
  clear hkd HD
  by_cases h1 : kd = 1
  · subst h1
    have HS : Hid (lackK K c = decide (0 < (leftK K c.name).length)) := Lib.hid (by rw [HS0.out]; rfl)
    clear HS0
    go_wp2_with (go_at_call 18; refine HM.out.mono ?_; rintro e w2 ⟨v, R, rfl, ho, hs_, hm, hk2, hp2⟩; have hln := miss_len hm; have hrl := miss_few HA.out hs_ hm; have HK2 := Lib.hid hk2; have HP2 := Lib.hid hp2; obtain ⟨va, ca, hva, -⟩ := ho.rd.form; subst hva; rw [← hln] at HS; have HS2 := HS; clear ho hs_ hm hk2 hp2 hln; obtain ⟨q, hq⟩ : ∃ y, decide (0 < R.length) = y := ⟨_, rfl⟩; have hq2 : decide ((0 : Int) < (R.length : Int)) = q := (by rw [← hq, decide_eq_decide]; omega); rw [hq] at HS2)
    go_ret
    exact ⟨by rw [HS2.out]; first | rfl | simp [*], HK2.out, (S.Kpt.of_below (S := [fb]) HB1.out).trans HP2.out (fun y hy => .inl hy)⟩
  · have h1a : (kd == (1 : Int)) = false := by simpa using h1
    have h1b : decide (kd = (1 : Int)) = false := by simpa using h1
    by_cases h3 : kd = 3
    · subst h3
      have HS : Hid (lackK K c = decide (0 < (leftK K c.name).length)) := Lib.hid (by rw [HS0.out]; rfl)
      clear HS0
      go_wp2_with (go_at_call 18; refine HM.out.mono ?_; rintro e w2 ⟨v, R, rfl, ho, hs_, hm, hk2, hp2⟩; have hln := miss_len hm; have hrl := miss_few HA.out hs_ hm; have HK2 := Lib.hid hk2; have HP2 := Lib.hid hp2; obtain ⟨va, ca, hva, -⟩ := ho.rd.form; subst hva; rw [← hln] at HS; have HS2 := HS; clear ho hs_ hm hk2 hp2 hln; obtain ⟨q, hq⟩ : ∃ y, decide (0 < R.length) = y := ⟨_, rfl⟩; have hq2 : decide ((0 : Int) < (R.length : Int)) = q := (by rw [← hq, decide_eq_decide]; omega); rw [hq] at HS2)
      go_ret
      exact ⟨by rw [HS2.out]; first | rfl | simp [*], HK2.out, (S.Kpt.of_below (S := [fb]) HB1.out).trans HP2.out (fun y hy => .inl hy)⟩
    · have h3a : (kd == (3 : Int)) = false := by simpa using h3
      have h3b : decide (kd = (3 : Int)) = false := by simpa using h3
      have HS : Hid (lackK K c = false) := Lib.hid (by rw [HS0.out, h1b, h3b]; rfl)
      clear HS0
      go_wp2_with fail
      go_ret
      exact ⟨by rw [HS.out]; first | rfl | simp, HK1.out, S.Kpt.of_below HB1.out⟩
end Go.Proofs.YtlmpnmnfloeoiaaGreat.R
namespace Go.Proofs.YtlmpnmnfloeoiaaGreat.R
open Go.RowKit Go.Proofs.YtlmpnmnfloeoiaaGreat.D Go.Proofs.YtlmpnmnfloeoiaaGreat.O Go.Proofs.YtlmpnmnfloeoiaaGreat.A
set_option maxHeartbeats 2000000 in
set_option maxRecDepth 100000 in
theorem oddF_h (N lb fb tb mt : Nat) (vs : Value) (K : List Cls) (b1 : Nat) (x : Fld) (w : World) (h : LkW w N lb fb tb mt vs K) (hn : x.2.1.2.size ≤ maxLen) (hb : w.heap[b1]? = some (.cells #[.pointer (some ⟨lb, 0, none⟩)] 57 (0, 0))) :
    Calls Tryz.prog 67 (#[.agg #[.string x.1, .int .i64 x.2.1.1, .string x.2.1.2, .bool x.2.2]] ++ #[.pointer (some ⟨b1, 0, none⟩)]) w fun e w' => e = .returned (.bool (oddF K x)) ∧ Below w.heap.size w w' := by
  obtain ⟨nm, ⟨tk, tc⟩, st⟩ := x
  show Calls _ _ #[.agg #[.string nm, .int .i64 tk, .string tc, .bool st], .pointer (some ⟨b1, 0, none⟩)] _ _
  have HK := Lib.hid h
  have hbl : b1 < w.heap.size := (Array.getElem?_eq_some_iff.1 hb).1
  have y0 : w.cell? ⟨b1, 0, none⟩ = some (.pointer (some ⟨lb, 0, none⟩)) := by simp [World.cell?, hb]
  have bne : b1 ≠ w.heap.size := by omega
  have HS := Lib.hid (fun W (hW : Below w.heap.size w W) => strange_h N lb fb tb mt vs K (tk, tc) W (HK.out.below hW) hn)
  have HR : Hid (oddF K (nm, (tk, tc), st) = strangeK K (tk, tc)) := Lib.hid rfl
  clear h hb
  go_enter Tryz.func67, Tryz.ntmps67
  go_wp2_with (go_at_call 68; refine (HS.out _ (below_alR _ _)).mono ?_; rintro e w1 ⟨rfl, hb1⟩)
  go_ret
  exact ⟨by rw [HR.out]; rfl, (below_alR _ _).trans (hb1.mono (by simp))⟩
theorem nameF_h (x : Fld) (w : World) : Calls Tryz.prog 69 #[.agg #[.string x.1, .int .i64 x.2.1.1, .string x.2.1.2, .bool x.2.2]] w fun e w' => e = .returned (.string x.1) ∧ Below w.heap.size w w' := by
  obtain ⟨nm, ⟨tk, tc⟩, st⟩ := x
  show Calls _ _ #[.agg #[.string nm, .int .i64 tk, .string tc, .bool st]] _ _
  go_enter Tryz.func69, Tryz.ntmps69
  go_wp2_with fail
  go_ret
  exact ⟨rfl, below_alR _ _⟩
set_option maxHeartbeats 4000000 in
set_option maxRecDepth 100000 in
theorem wrongFields_h (N lb fb tb mt : Nat) (vs : Value) (K : List Cls) (c : Cls) (pi pf pm : Option Addr) (ci cf cm : Nat) (w : World) (h : LkW w N lb fb tb mt vs K) (ha : AskH K) (hc : AskC K c) (hr : ClR w N c pi pf pm ci cf cm) :
    Calls Tryz.prog 37 #[.pointer (some ⟨lb, 0, none⟩), .agg #[.string c.name, .string c.super, .slice pi c.ifaces.length ci, .int .i64 c.kind, .slice pf c.fields.length cf, .slice pm c.methods.length cm]] w fun e w' => e = .returned (.bool (fldsK K c)) ∧ LkW w' N lb fb tb mt vs K ∧ S.Kpt [fb] w w' := by
  have hfl : c.fields.length ≤ 1000000 := (ha.1 c hc.2.1).2.1
  have HFS := Lib.hid hc.2.2.2
  have HK := Lib.hid h
  have HA := Lib.hid ha
  have HR := Lib.hid hr
  obtain ⟨hlb, hfb, hlf, c0, c1⟩ := h.cells
  have hNf := h.2.2.2.1
  clear h ha hr hc
  go_enter Tryz.func37, Tryz.ntmps37
  go_upto_region 1 with fail
  obtain ⟨hB1, hX1, hX2, hz1⟩ := two_box w (.pointer (some ⟨lb, 0, none⟩)) #[.string c.name, .string c.super, .slice pi c.ifaces.length ci, .int .i64 c.kind, .slice pf c.fields.length cf, .slice pm c.methods.length cm] 57 27
  obtain ⟨w1, hw1⟩ : ∃ y, y = (w.alloc (.cells #[.pointer (some ⟨lb, 0, none⟩)] 57)).alloc (.cells #[.string c.name, .string c.super, .slice pi c.ifaces.length ci, .int .i64 c.kind, .slice pf c.fields.length cf, .slice pm c.methods.length cm] 27) := ⟨_, rfl⟩
  rw [← hw1] at hB1 hX1 hX2 hz1 ⊢
  clear hw1
  obtain ⟨b1, hb1⟩ : ∃ y, w.heap.size = y := ⟨_, rfl⟩
  obtain ⟨tc, htc⟩ : ∃ y, w.heap.size + 1 = y := ⟨_, rfl⟩
  have hne : b1 ≠ fb ∧ tc ≠ fb := by omega
  have HNE := Lib.hid hne
  rw [hb1] at hX1
  rw [htc] at hX2
  have HX1 := Lib.hid hX1
  have HX2 := Lib.hid hX2
  have HB1 := Lib.hid hB1
  have HK1 := Lib.hid (HK.out.below hB1)
  have HR1 := Lib.hid (HR.out.kpt (S.Kpt.of_below (S := []) hB1) (fun x hx => by cases hx))
  rw [htc, hb1]
  clear hb1 htc hX1 hX2 hB1 hne c0 c1 HK HR
  have e67 : ∀ args w, (callFunc 67 args).run Tryz.prog w = .ok (.enter 67 args) w := enters_of Tryz.func67 (by kernel_rfl) rfl
  have e69 : ∀ args w, (callFunc 69 args).run Tryz.prog w = .ok (.enter 69 args) w := enters_of Tryz.func69 (by kernel_rfl) rfl
  have hcon := hasI_fld pf cf (fun b => b < N) c.fields 67 #[.pointer (some ⟨b1, 0, none⟩)] (oddF K) (fun W => LkW W N lb fb tb mt vs K ∧ S.Kpt [fb] w1 W) w1 ⟨HK1.out, S.Kpt.refl _ _⟩
    (fun W hW => (HR1.out.kpt hW.2 (fun x hx => by rw [List.mem_singleton.1 hx]; exact hNf)).2.1) (by omega) e67
    (fun W x hx hW => (oddF_h N lb fb tb mt vs K b1 x W hW.1 (HFS.out x hx).2 (hW.2.block HX1.out (by simpa using HNE.out.1))).mono (fun e w' hh => ⟨hh.1, hW.1.below hh.2, hW.2.trans (S.Kpt.of_below (S := [fb]) hh.2) (fun y hy => .inl hy)⟩))
  have HIF : Hid (fldsK K c = ((decide (c.kind = 4) && decide (0 < c.fields.length)) || (c.fields.any (oddF K) || twiceB (c.fields.map (·.1))))) := Lib.hid rfl
  obtain ⟨a, ha⟩ : ∃ y, c.fields.any (oddF K) = y := ⟨_, rfl⟩
  rw [ha] at hcon HIF
  have HC := Lib.hid hcon
  have HT := Lib.hid (fun (W : World) (hW : S.Kpt [fb] w1 W) => twice_fld pf cf (fun b => b < N) c.fields 69 (fun x => x.1) W (HR1.out.kpt hW (fun x hx => by rw [List.mem_singleton.1 hx]; exact hNf)).2.1 (by omega) (fun x hx => (HFS.out x hx).1) e69 (fun W' x _ _ => nameF_h x W'))
  obtain ⟨t, ht⟩ : ∃ y, twiceB (c.fields.map (·.1)) = y := ⟨_, rfl⟩
  have ht' : twiceB (c.fields.map fun x => x.1) = t := ht
  rw [ht'] at HT
  rw [ht] at HIF
  clear hcon ha ht ht' e67 e69
  obtain ⟨tl, x0, x1, x2, x3, x4, x5⟩ := cells6 HX2.out
  obtain ⟨kd, hkd⟩ : ∃ y, c.kind = y := ⟨_, rfl⟩
  rw [hkd] at x3 HIF ⊢
  rw [hkd] at HX2
  clear hkd
  have g0 : (0 : Int) ≤ (c.fields.length : Int) := by omega
  by_cases hk : kd = 4
  · subst hk
    by_cases hf : 0 < c.fields.length
    · have hf' : (0 : Int) < (c.fields.length : Int) := by omega
      go_wp2_with fail
      go_ret
      exact ⟨by rw [HIF.out, decide_eq_true hf]; rfl, HK1.out, S.Kpt.of_below HB1.out⟩
    · have hf' : ¬ (0 : Int) < (c.fields.length : Int) := by omega
      have HIF2 : Hid (fldsK K c = (a || t)) := Lib.hid (by rw [HIF.out, decide_eq_false hf]; simp)
      clear HIF
      cases a with
      | true =>
        go_wp2_with (go_at_call 70; refine HC.out.mono ?_; rintro e w2 ⟨rfl, hk2, hp2⟩; have HK2 := Lib.hid hk2; have HP2 := Lib.hid hp2; have hX2' := hp2.block HX2.out (by simpa using HNE.out.2); clear hk2 hp2 tl x0 x1 x2 x3 x4 x5; obtain ⟨tl, x0, x1, x2, x3, x4, x5⟩ := cells6 hX2'; clear hX2')
        go_ret
        exact ⟨by rw [HIF2.out]; rfl, HK2.out, (S.Kpt.of_below (S := [fb]) HB1.out).trans HP2.out (fun y hy => .inl hy)⟩
      | false =>
        go_wp2_with first
          | (go_at_call 70; refine HC.out.mono ?_; rintro e w2 ⟨rfl, hk2, hp2⟩; have HK2 := Lib.hid hk2; have HP2 := Lib.hid hp2; have hX2' := hp2.block HX2.out (by simpa using HNE.out.2); clear hk2 hp2 tl x0 x1 x2 x3 x4 x5; obtain ⟨tl, x0, x1, x2, x3, x4, x5⟩ := cells6 hX2'; clear hX2')
          | (go_at_call 71; refine (HT.out _ HP2.out).mono ?_; rintro e w3 ⟨rfl, hb3⟩; have HK3 := Lib.hid (HK2.out.below hb3); have HP3 := Lib.hid (HP2.out.trans (S.Kpt.of_below (S := [fb]) hb3) (fun y hy => .inl hy)); clear hb3)
        go_ret
        exact ⟨by rw [HIF2.out]; first | rfl | simp, HK3.out, (S.Kpt.of_below (S := [fb]) HB1.out).trans HP3.out (fun y hy => .inl hy)⟩
  · have hk' : (kd == (4 : Int)) = false := by simpa using hk
    have hk2 : decide (kd = (4 : Int)) = false := by simpa using hk
    have HIF2 : Hid (fldsK K c = (a || t)) := Lib.hid (by rw [HIF.out, hk2]; simp)
    clear HIF
    cases a with
    | true =>
      go_wp2_with (go_at_call 70; refine HC.out.mono ?_; rintro e w2 ⟨rfl, hk2, hp2⟩; have HK2 := Lib.hid hk2; have HP2 := Lib.hid hp2; have hX2' := hp2.block HX2.out (by simpa using HNE.out.2); clear hk2 hp2 tl x0 x1 x2 x3 x4 x5; obtain ⟨tl, x0, x1, x2, x3, x4, x5⟩ := cells6 hX2'; clear hX2')
      go_ret
      exact ⟨by rw [HIF2.out]; rfl, HK2.out, (S.Kpt.of_below (S := [fb]) HB1.out).trans HP2.out (fun y hy => .inl hy)⟩
    | false =>
      go_wp2_with first
        | (go_at_call 70; refine HC.out.mono ?_; rintro e w2 ⟨rfl, hk2, hp2⟩; have HK2 := Lib.hid hk2; have HP2 := Lib.hid hp2; have hX2' := hp2.block HX2.out (by simpa using HNE.out.2); clear hk2 hp2 tl x0 x1 x2 x3 x4 x5; obtain ⟨tl, x0, x1, x2, x3, x4, x5⟩ := cells6 hX2'; clear hX2')
        | (go_at_call 71; refine (HT.out _ HP2.out).mono ?_; rintro e w3 ⟨rfl, hb3⟩; have HK3 := Lib.hid (HK2.out.below hb3); have HP3 := Lib.hid (HP2.out.trans (S.Kpt.of_below (S := [fb]) hb3) (fun y hy => .inl hy)); clear hb3)
      go_ret
      exact ⟨by rw [HIF2.out]; first | rfl | simp, HK3.out, (S.Kpt.of_below (S := [fb]) HB1.out).trans HP3.out (fun y hy => .inl hy)⟩
end Go.Proofs.YtlmpnmnfloeoiaaGreat.R
namespace Go.Proofs.YtlmpnmnfloeoiaaGreat.R
open Go.RowKit Go.Proofs.YtlmpnmnfloeoiaaGreat.D Go.Proofs.YtlmpnmnfloeoiaaGreat.O Go.Proofs.YtlmpnmnfloeoiaaGreat.A
set_option maxHeartbeats 8000000 in
set_option maxRecDepth 100000 in
theorem wrongM_h (k : Int) (m : Mth) (pp pc ph : Option Addr) (np cp nc cc nh ch : Nat) (ok : Nat → Prop) (w : World) (hm : RdX 2 (sP tyC) ok w (.slice pp np cp) m.params) (hz : SzM m) :
    Calls Tryz.prog 73 #[.int .i64 k, .agg #[.string m.name, .slice pp np cp, .int .i64 m.ret.1, .string m.ret.2, .bool m.st, .bool m.ab, .int .i64 m.locals, .slice pc nc cc, .slice ph nh ch]] w fun e w' => e = .returned (.bool (wrongM k m)) ∧ Below w.heap.size w w' := by
  obtain ⟨nm, ps, ⟨rk, rc⟩, st, ab, lo, co, hs⟩ := m
  dsimp only at hm ⊢
  have HM := Lib.hid hm
  have HZ := Lib.hid hz
  clear hm hz
  have HO := Lib.hid (fun W (hW : RdX 2 (sP tyC) ok W (.slice pp np cp) ps) => of_any (.slice pp np cp) ps rk rc W (rdT_m hW) HZ.out.1 HZ.out.2.1 HZ.out.2.2)
  obtain ⟨T, hT⟩ : ∃ y, bx (ofL ps (rk, rc)) = y := ⟨_, rfl⟩
  have HT := Lib.hid hT
  rw [hT] at HO
  clear hT HZ
  by_cases hk4 : k = 4
  · subst hk4
    cases st with
    | false =>
      cases ab with
      | false =>
        have HW : Hid (wrongM 4 ⟨nm, ps, (rk, rc), false, false, lo, co, hs⟩ = true) := Lib.hid (by simp [wrongM, *])
        (try clear hn); (try clear ht)
        go_enter Tryz.func73, Tryz.ntmps73
        go_wp2_with fail
        go_ret
        exact ⟨by rw [HW.out]; rfl, below_alR _ _⟩
      | true =>
        by_cases hn : nm = clinT
        · have hnt : (nm.toList == [99, 108, 105, 110, 105, 116]) = true := tl_eq #[99, 108, 105, 110, 105, 116] hn
          have HW : Hid (wrongM 4 ⟨nm, ps, (rk, rc), false, true, lo, co, hs⟩ = true) := Lib.hid (by simp [wrongM, *])
          (try clear hn); (try clear ht)
          go_enter Tryz.func73, Tryz.ntmps73
          go_wp2_with fail
          go_ret
          exact ⟨by rw [HW.out]; rfl, below_alR _ _⟩
        · have hnt : (nm.toList == [99, 108, 105, 110, 105, 116]) = false := tl_ne #[99, 108, 105, 110, 105, 116] hn
          have HW : Hid (wrongM 4 ⟨nm, ps, (rk, rc), false, true, lo, co, hs⟩ = false) := Lib.hid (by simp [wrongM, *])
          (try clear hn); (try clear ht)
          go_enter Tryz.func73, Tryz.ntmps73
          go_wp2_with fail
          go_ret
          exact ⟨by rw [HW.out]; rfl, below_alR _ _⟩
    | true =>
      cases ab with
      | false =>
        have HW : Hid (wrongM 4 ⟨nm, ps, (rk, rc), true, false, lo, co, hs⟩ = true) := Lib.hid (by simp [wrongM, *])
        (try clear hn); (try clear ht)
        go_enter Tryz.func73, Tryz.ntmps73
        go_wp2_with fail
        go_ret
        exact ⟨by rw [HW.out]; rfl, below_alR _ _⟩
      | true =>
        have HW : Hid (wrongM 4 ⟨nm, ps, (rk, rc), true, true, lo, co, hs⟩ = true) := Lib.hid (by simp [wrongM, *])
        (try clear hn); (try clear ht)
        go_enter Tryz.func73, Tryz.ntmps73
        go_wp2_with fail
        go_ret
        exact ⟨by rw [HW.out]; rfl, below_alR _ _⟩
  · by_cases hk2 : k = 2
    · subst hk2
      cases st with
      | false =>
        cases ab with
        | false =>
          by_cases hn : nm = clinT
          · have hnt : (nm.toList == [99, 108, 105, 110, 105, 116]) = true := tl_eq #[99, 108, 105, 110, 105, 116] hn
            have HW : Hid (wrongM 2 ⟨nm, ps, (rk, rc), false, false, lo, co, hs⟩ = true) := Lib.hid (by simp [wrongM, *])
            (try clear hn); (try clear ht)
            go_enter Tryz.func73, Tryz.ntmps73
            go_wp2_with fail
            go_ret
            exact ⟨by rw [HW.out]; rfl, below_alR _ _⟩
          · have hnt : (nm.toList == [99, 108, 105, 110, 105, 116]) = false := tl_ne #[99, 108, 105, 110, 105, 116] hn
            have HW : Hid (wrongM 2 ⟨nm, ps, (rk, rc), false, false, lo, co, hs⟩ = false) := Lib.hid (by simp [wrongM, *])
            (try clear hn); (try clear ht)
            go_enter Tryz.func73, Tryz.ntmps73
            go_wp2_with fail
            go_ret
            exact ⟨by rw [HW.out]; rfl, below_alR _ _⟩
        | true =>
          by_cases hn : nm = clinT
          · have hnt : (nm.toList == [99, 108, 105, 110, 105, 116]) = true := tl_eq #[99, 108, 105, 110, 105, 116] hn
            have HW : Hid (wrongM 2 ⟨nm, ps, (rk, rc), false, true, lo, co, hs⟩ = true) := Lib.hid (by simp [wrongM, *])
            (try clear hn); (try clear ht)
            go_enter Tryz.func73, Tryz.ntmps73
            go_wp2_with fail
            go_ret
            exact ⟨by rw [HW.out]; rfl, below_alR _ _⟩
          · have hnt : (nm.toList == [99, 108, 105, 110, 105, 116]) = false := tl_ne #[99, 108, 105, 110, 105, 116] hn
            have HW : Hid (wrongM 2 ⟨nm, ps, (rk, rc), false, true, lo, co, hs⟩ = false) := Lib.hid (by simp [wrongM, *])
            (try clear hn); (try clear ht)
            go_enter Tryz.func73, Tryz.ntmps73
            go_wp2_with fail
            go_ret
            exact ⟨by rw [HW.out]; rfl, below_alR _ _⟩
      | true =>
        cases ab with
        | false =>
          by_cases hn : nm = clinT
          · have hnt : (nm.toList == [99, 108, 105, 110, 105, 116]) = true := tl_eq #[99, 108, 105, 110, 105, 116] hn
            by_cases ht : T = voidT
            · have htt : (T.toList == [40, 41, 86]) = true := tl_eq #[40, 41, 86] ht
              have HW : Hid (wrongM 2 ⟨nm, ps, (rk, rc), true, false, lo, co, hs⟩ = false) := Lib.hid (by simp [wrongM, typM, HT.out, *])
              (try clear hn); (try clear ht)
              go_enter Tryz.func73, Tryz.ntmps73
              go_wp2_with (go_at_call 100; refine (HO.out _ (HM.out.any (sP.grow _) (below_alR _ _))).mono ?_; rintro e w1 ⟨rfl, hb1⟩)
              go_ret
              exact ⟨by rw [HW.out]; rfl, (below_alR _ _).trans (hb1.mono (by simp))⟩
            · have htt : (T.toList == [40, 41, 86]) = false := tl_ne #[40, 41, 86] ht
              have HW : Hid (wrongM 2 ⟨nm, ps, (rk, rc), true, false, lo, co, hs⟩ = true) := Lib.hid (by simp [wrongM, typM, HT.out, *])
              (try clear hn); (try clear ht)
              go_enter Tryz.func73, Tryz.ntmps73
              go_wp2_with (go_at_call 100; refine (HO.out _ (HM.out.any (sP.grow _) (below_alR _ _))).mono ?_; rintro e w1 ⟨rfl, hb1⟩)
              go_ret
              exact ⟨by rw [HW.out]; rfl, (below_alR _ _).trans (hb1.mono (by simp))⟩
          · have hnt : (nm.toList == [99, 108, 105, 110, 105, 116]) = false := tl_ne #[99, 108, 105, 110, 105, 116] hn
            have HW : Hid (wrongM 2 ⟨nm, ps, (rk, rc), true, false, lo, co, hs⟩ = false) := Lib.hid (by simp [wrongM, *])
            (try clear hn); (try clear ht)
            go_enter Tryz.func73, Tryz.ntmps73
            go_wp2_with fail
            go_ret
            exact ⟨by rw [HW.out]; rfl, below_alR _ _⟩
        | true =>
          have HW : Hid (wrongM 2 ⟨nm, ps, (rk, rc), true, true, lo, co, hs⟩ = true) := Lib.hid (by simp [wrongM, *])
          (try clear hn); (try clear ht)
          go_enter Tryz.func73, Tryz.ntmps73
          go_wp2_with fail
          go_ret
          exact ⟨by rw [HW.out]; rfl, below_alR _ _⟩
    · have h4 : decide (k = (4 : Int)) = false := by simpa using hk4
      have h2 : decide (k = (2 : Int)) = false := by simpa using hk2
      have h4b : (k != (4 : Int)) = true := by simpa using hk4
      have h2b : (k != (2 : Int)) = true := by simpa using hk2
      cases st with
      | false =>
        cases ab with
        | false =>
          by_cases hn : nm = clinT
          · have hnt : (nm.toList == [99, 108, 105, 110, 105, 116]) = true := tl_eq #[99, 108, 105, 110, 105, 116] hn
            have HW : Hid (wrongM k ⟨nm, ps, (rk, rc), false, false, lo, co, hs⟩ = true) := Lib.hid (by simp [wrongM, *])
            (try clear hn); (try clear ht)
            go_enter Tryz.func73, Tryz.ntmps73
            go_wp2_with fail
            go_ret
            exact ⟨by rw [HW.out]; rfl, below_alR _ _⟩
          · have hnt : (nm.toList == [99, 108, 105, 110, 105, 116]) = false := tl_ne #[99, 108, 105, 110, 105, 116] hn
            have HW : Hid (wrongM k ⟨nm, ps, (rk, rc), false, false, lo, co, hs⟩ = false) := Lib.hid (by simp [wrongM, *])
            (try clear hn); (try clear ht)
            go_enter Tryz.func73, Tryz.ntmps73
            go_wp2_with fail
            go_ret
            exact ⟨by rw [HW.out]; rfl, below_alR _ _⟩
        | true =>
          have HW : Hid (wrongM k ⟨nm, ps, (rk, rc), false, true, lo, co, hs⟩ = true) := Lib.hid (by simp [wrongM, *])
          (try clear hn); (try clear ht)
          go_enter Tryz.func73, Tryz.ntmps73
          go_wp2_with fail
          go_ret
          exact ⟨by rw [HW.out]; rfl, below_alR _ _⟩
      | true =>
        cases ab with
        | false =>
          by_cases hn : nm = clinT
          · have hnt : (nm.toList == [99, 108, 105, 110, 105, 116]) = true := tl_eq #[99, 108, 105, 110, 105, 116] hn
            by_cases ht : T = voidT
            · have htt : (T.toList == [40, 41, 86]) = true := tl_eq #[40, 41, 86] ht
              have HW : Hid (wrongM k ⟨nm, ps, (rk, rc), true, false, lo, co, hs⟩ = false) := Lib.hid (by simp [wrongM, typM, HT.out, *])
              (try clear hn); (try clear ht)
              go_enter Tryz.func73, Tryz.ntmps73
              go_wp2_with (go_at_call 100; refine (HO.out _ (HM.out.any (sP.grow _) (below_alR _ _))).mono ?_; rintro e w1 ⟨rfl, hb1⟩)
              go_ret
              exact ⟨by rw [HW.out]; rfl, (below_alR _ _).trans (hb1.mono (by simp))⟩
            · have htt : (T.toList == [40, 41, 86]) = false := tl_ne #[40, 41, 86] ht
              have HW : Hid (wrongM k ⟨nm, ps, (rk, rc), true, false, lo, co, hs⟩ = true) := Lib.hid (by simp [wrongM, typM, HT.out, *])
              (try clear hn); (try clear ht)
              go_enter Tryz.func73, Tryz.ntmps73
              go_wp2_with (go_at_call 100; refine (HO.out _ (HM.out.any (sP.grow _) (below_alR _ _))).mono ?_; rintro e w1 ⟨rfl, hb1⟩)
              go_ret
              exact ⟨by rw [HW.out]; rfl, (below_alR _ _).trans (hb1.mono (by simp))⟩
          · have hnt : (nm.toList == [99, 108, 105, 110, 105, 116]) = false := tl_ne #[99, 108, 105, 110, 105, 116] hn
            have HW : Hid (wrongM k ⟨nm, ps, (rk, rc), true, false, lo, co, hs⟩ = false) := Lib.hid (by simp [wrongM, *])
            (try clear hn); (try clear ht)
            go_enter Tryz.func73, Tryz.ntmps73
            go_wp2_with fail
            go_ret
            exact ⟨by rw [HW.out]; rfl, below_alR _ _⟩
        | true =>
          have HW : Hid (wrongM k ⟨nm, ps, (rk, rc), true, true, lo, co, hs⟩ = true) := Lib.hid (by simp [wrongM, *])
          (try clear hn); (try clear ht)
          go_enter Tryz.func73, Tryz.ntmps73
          go_wp2_with fail
          go_ret
          exact ⟨by rw [HW.out]; rfl, below_alR _ _⟩
end Go.Proofs.YtlmpnmnfloeoiaaGreat.R
namespace Go.Proofs.YtlmpnmnfloeoiaaGreat.R
open Go.RowKit Go.Proofs.YtlmpnmnfloeoiaaGreat.D Go.Proofs.YtlmpnmnfloeoiaaGreat.O Go.Proofs.YtlmpnmnfloeoiaaGreat.A
set_option maxHeartbeats 4000000 in
set_option maxRecDepth 100000 in
theorem oddM_h (N lb fb tb mt : Nat) (vs : Value) (K : List Cls) (b1 tc : Nat) (kind : Int) (n s : ByteArray) (vi vf vm : Value) (x : Mth) (pp pc ph : Option Addr) (np cp nc cc nh ch : Nat) (ok : Nat → Prop) (w : World) (h : LkW w N lb fb tb mt vs K) (hz : SzM x)
    (hm : mP ok w [.string x.name, .slice pp np cp, .int .i64 x.ret.1, .string x.ret.2, .bool x.st, .bool x.ab, .int .i64 x.locals, .slice pc nc cc, .slice ph nh ch] x)
    (hb : w.heap[b1]? = some (.cells #[.pointer (some ⟨lb, 0, none⟩)] 57 (0, 0))) (ht : w.heap[tc]? = some (.cells #[.string n, .string s, vi, .int .i64 kind, vf, vm] 27 (0, 0))) :
    Calls Tryz.prog 72 (#[.agg #[.string x.name, .slice pp np cp, .int .i64 x.ret.1, .string x.ret.2, .bool x.st, .bool x.ab, .int .i64 x.locals, .slice pc nc cc, .slice ph nh ch]] ++ #[.pointer (some ⟨tc, 0, none⟩), .pointer (some ⟨b1, 0, none⟩)]) w fun e w' => e = .returned (.bool (oddM K kind x)) ∧ Below w.heap.size w w' := by
  show Calls _ _ #[.agg #[.string x.name, .slice pp np cp, .int .i64 x.ret.1, .string x.ret.2, .bool x.st, .bool x.ab, .int .i64 x.locals, .slice pc nc cc, .slice ph nh ch], .pointer (some ⟨tc, 0, none⟩), .pointer (some ⟨b1, 0, none⟩)] _ _
  have hps : RdX 2 (sP tyC) ok w (.slice pp np cp) x.params := by
    obtain ⟨_, _, _, e, k, _, _⟩ := hm
    simp only [List.cons.injEq, and_true] at e
    obtain ⟨-, rfl, -⟩ := e
    exact k
  have hnp : np = x.params.length := by
    obtain ⟨_, _, e, _⟩ := hps.len
    simp only [Value.slice.injEq] at e
    exact e.2.1
  subst hnp
  have HK := Lib.hid h
  have HP := Lib.hid hps
  have HZ := Lib.hid hz
  have hpl : x.params.length ≤ 1000 := hz.1
  have hbl : b1 < w.heap.size := (Array.getElem?_eq_some_iff.1 hb).1
  have htl : tc < w.heap.size := (Array.getElem?_eq_some_iff.1 ht).1
  have bne : b1 ≠ w.heap.size := by omega
  have tne : tc ≠ w.heap.size := by omega
  have y0 : w.cell? ⟨b1, 0, none⟩ = some (.pointer (some ⟨lb, 0, none⟩)) := by simp [World.cell?, hb]
  have z3 : w.cell? ⟨tc, 3, none⟩ = some (.int .i64 kind) := by simp [World.cell?, ht]
  have HY := Lib.hid y0
  have e68 : ∀ args w, (callFunc 68 args).run Tryz.prog w = .ok (.enter 68 args) w := enters_of Tryz.func68 (by kernel_rfl) rfl
  have HW := Lib.hid (fun (W : World) (hW : Below w.heap.size w W) => wrongM_h kind x pp pc ph x.params.length cp nc cc nh ch ok W (hps.any (sP.grow _) hW) hz)
  have HS := Lib.hid (fun (W : World) (hW : Below w.heap.size w W) => strange_h N lb fb tb mt vs K x.ret W (HK.out.below hW) (Nat.le_trans hz.2.2 (by unfold maxLen; omega)))
  have HC := Lib.hid (fun (W : World) (hW : Below w.heap.size w W) => hasI_typ pp cp ok x.params 68 (.pointer (some ⟨lb, 0, none⟩)) (strangeK K) (fun V => Below W.heap.size W V) W (Below.refl _ _) (fun V hV => (HP.out.any (sP.grow _) hW).any (sP.grow _) hV) (by omega) e68
    (fun V t ht hV => (strange_h N lb fb tb mt vs K t V ((HK.out.below hW).below hV) (Nat.le_trans (HZ.out.2.1 t ht) (by unfold maxLen; omega))).mono (fun e w' hh => ⟨hh.1, hV.trans (hh.2.mono hV.size)⟩)))
  have HR : Hid (oddM K kind x = (wrongM kind x || (strangeK K x.ret || x.params.any (strangeK K)))) := Lib.hid rfl
  obtain ⟨a, ha⟩ : ∃ y, wrongM kind x = y := ⟨_, rfl⟩
  obtain ⟨b, hb'⟩ : ∃ y, strangeK K x.ret = y := ⟨_, rfl⟩
  obtain ⟨d, hd⟩ : ∃ y, x.params.any (strangeK K) = y := ⟨_, rfl⟩
  rw [ha] at HW HR
  rw [hb'] at HS HR
  rw [hd] at HC HR
  clear ha hb' hd e68 h hm hps hz hb ht
  obtain ⟨w0, hw0⟩ : ∃ y, y = w.alloc (.cells #[.string x.name, .slice pp x.params.length cp, .int .i64 x.ret.1, .string x.ret.2, .bool x.st, .bool x.ab, .int .i64 x.locals, .slice pc nc cc, .slice ph nh ch] 42) := ⟨_, rfl⟩
  have hX0 : w0.heap[w.heap.size]? = some (.cells #[.string x.name, .slice pp x.params.length cp, .int .i64 x.ret.1, .string x.ret.2, .bool x.st, .bool x.ab, .int .i64 x.locals, .slice pc nc cc, .slice ph nh ch] 42 (0, 0)) := by rw [hw0]; exact heap_alloc_new _ _
  have hB0 : Below w.heap.size w w0 := by rw [hw0]; exact below_alR _ _
  go_enter Tryz.func72, Tryz.ntmps72
  go_upto_region 1 with fail
  rw [← hw0]
  clear hw0
  obtain ⟨xb, hxb⟩ : ∃ y, w.heap.size = y := ⟨_, rfl⟩
  have HB0 := Lib.hid hB0
  have yl : Hid (w0.cell? ⟨b1, 0, none⟩ = some (.pointer (some ⟨lb, 0, none⟩)) ∧ w0.cell? ⟨tc, 3, none⟩ = some (.int .i64 kind)) := Lib.hid ⟨(hB0.cell hbl).trans y0, (hB0.cell htl).trans z3⟩
  rw [hxb] at hX0 ⊢
  have HX0 := Lib.hid (show SfX w0 xb x pp pc ph x.params.length cp nc cc nh ch from hX0)
  have hxl : xb < w0.heap.size := (Array.getElem?_eq_some_iff.1 hX0).1
  have hwl : w.heap.size ≤ w0.heap.size := hB0.size
  clear hX0 hB0 y0 z3 bne tne
  obtain ⟨y0, z3⟩ := yl.out
  obtain ⟨x0, x1, x2, x3, x4, x5, x6, x7, x8⟩ := HX0.out.held
  cases a with
  | true =>
    go_wp2_with (go_at_call 73; refine (HW.out _ HB0.out).mono ?_; rintro e w1 ⟨rfl, hb1⟩; have HB1 := Lib.hid (HB0.out.trans (hb1.mono hwl)); have HX1 := Lib.hid (show SfX w1 xb x pp pc ph x.params.length cp nc cc nh ch from (hb1.block _ hxl).trans HX0.out); have hx1 := Nat.lt_of_lt_of_le hxl hb1.size; have yy := (HB1.out.cell hbl).trans HY.out; clear hb1 x0 x1 x2 x3 x4 x5 x6 x7 x8 y0 z3; obtain ⟨x0, x1, x2, x3, x4, x5, x6, x7, x8⟩ := HX1.out.held)
    go_ret
    exact ⟨by rw [HR.out]; rfl, HB1.out⟩
  | false =>
    cases b with
    | true =>
      go_wp2_with first
        | (go_at_call 73; refine (HW.out _ HB0.out).mono ?_; rintro e w1 ⟨rfl, hb1⟩; have HB1 := Lib.hid (HB0.out.trans (hb1.mono hwl)); have HX1 := Lib.hid (show SfX w1 xb x pp pc ph x.params.length cp nc cc nh ch from (hb1.block _ hxl).trans HX0.out); have hx1 := Nat.lt_of_lt_of_le hxl hb1.size; have yy := (HB1.out.cell hbl).trans HY.out; clear hb1 x0 x1 x2 x3 x4 x5 x6 x7 x8 y0 z3; obtain ⟨x0, x1, x2, x3, x4, x5, x6, x7, x8⟩ := HX1.out.held)
        | (go_at_call 68; refine (HS.out _ HB1.out).mono ?_; rintro e w2 ⟨rfl, hb2⟩; have HB2 := Lib.hid (HB1.out.trans (hb2.mono HB1.out.size)); have HX2 := Lib.hid (show SfX w2 xb x pp pc ph x.params.length cp nc cc nh ch from (hb2.block _ hx1).trans HX1.out); clear yy x0 x1 x2 x3 x4 x5 x6 x7 x8; have yy := (HB2.out.cell hbl).trans HY.out; clear hb2; obtain ⟨x0, x1, x2, x3, x4, x5, x6, x7, x8⟩ := HX2.out.held)
      go_ret
      exact ⟨by rw [HR.out]; rfl, HB2.out⟩
    | false =>
      go_wp2_with first
        | (go_at_call 73; refine (HW.out _ HB0.out).mono ?_; rintro e w1 ⟨rfl, hb1⟩; have HB1 := Lib.hid (HB0.out.trans (hb1.mono hwl)); have HX1 := Lib.hid (show SfX w1 xb x pp pc ph x.params.length cp nc cc nh ch from (hb1.block _ hxl).trans HX0.out); have hx1 := Nat.lt_of_lt_of_le hxl hb1.size; have yy := (HB1.out.cell hbl).trans HY.out; clear hb1 x0 x1 x2 x3 x4 x5 x6 x7 x8 y0 z3; obtain ⟨x0, x1, x2, x3, x4, x5, x6, x7, x8⟩ := HX1.out.held)
        | (go_at_call 68; refine (HS.out _ HB1.out).mono ?_; rintro e w2 ⟨rfl, hb2⟩; have HB2 := Lib.hid (HB1.out.trans (hb2.mono HB1.out.size)); have HX2 := Lib.hid (show SfX w2 xb x pp pc ph x.params.length cp nc cc nh ch from (hb2.block _ hx1).trans HX1.out); clear yy x0 x1 x2 x3 x4 x5 x6 x7 x8; have yy := (HB2.out.cell hbl).trans HY.out; clear hb2; obtain ⟨x0, x1, x2, x3, x4, x5, x6, x7, x8⟩ := HX2.out.held)
        | (go_at_call 74; refine (HC.out _ HB2.out).mono ?_; rintro e w3 ⟨rfl, hb3⟩; have HB3 := Lib.hid (HB2.out.trans (hb3.mono HB2.out.size)); clear hb3 x0 x1 x2 x3 x4 x5 x6 x7 x8 yy)
      go_ret
      exact ⟨by rw [HR.out]; first | rfl | simp, HB3.out⟩
set_option maxHeartbeats 4000000 in
set_option maxRecDepth 100000 in
theorem wrongMethods_h (N lb fb tb mt : Nat) (vs : Value) (K : List Cls) (c : Cls) (pi pf pm : Option Addr) (ci cf cm : Nat) (w : World) (h : LkW w N lb fb tb mt vs K) (ha : AskH K) (hc : AskC K c) (hr : ClR w N c pi pf pm ci cf cm) :
    Calls Tryz.prog 38 #[.pointer (some ⟨lb, 0, none⟩), .agg #[.string c.name, .string c.super, .slice pi c.ifaces.length ci, .int .i64 c.kind, .slice pf c.fields.length cf, .slice pm c.methods.length cm]] w fun e w' => e = .returned (.bool (mthsK K c)) ∧ LkW w' N lb fb tb mt vs K ∧ S.Kpt [fb] w w' := by
  have hml : c.methods.length ≤ 1000000 := (ha.1 c hc.2.1).2.2.1
  have hms := (ha.2.1 c.name).2
  rw [hc.1] at hms
  have HMS := Lib.hid hms
  have HK := Lib.hid h
  have HR := Lib.hid hr
  obtain ⟨hlb, hfb, hlf, c0, c1⟩ := h.cells
  have hNf := h.2.2.2.1
  clear h ha hr hc hms
  go_enter Tryz.func38, Tryz.ntmps38
  go_upto_region 1 with fail
  obtain ⟨hB1, hX1, hX2, hz1⟩ := two_box w (.pointer (some ⟨lb, 0, none⟩)) #[.string c.name, .string c.super, .slice pi c.ifaces.length ci, .int .i64 c.kind, .slice pf c.fields.length cf, .slice pm c.methods.length cm] 57 27
  obtain ⟨w1, hw1⟩ : ∃ y, y = (w.alloc (.cells #[.pointer (some ⟨lb, 0, none⟩)] 57)).alloc (.cells #[.string c.name, .string c.super, .slice pi c.ifaces.length ci, .int .i64 c.kind, .slice pf c.fields.length cf, .slice pm c.methods.length cm] 27) := ⟨_, rfl⟩
  rw [← hw1] at hB1 hX1 hX2 hz1 ⊢
  clear hw1
  obtain ⟨b1, hb1⟩ : ∃ y, w.heap.size = y := ⟨_, rfl⟩
  obtain ⟨tc, htc⟩ : ∃ y, w.heap.size + 1 = y := ⟨_, rfl⟩
  have hne : b1 ≠ fb ∧ tc ≠ fb := by omega
  have HNE := Lib.hid hne
  rw [hb1] at hX1
  rw [htc] at hX2
  have HX1 := Lib.hid hX1
  have HX2 := Lib.hid hX2
  have HB1 := Lib.hid hB1
  have HK1 := Lib.hid (HK.out.below hB1)
  have HR1 := Lib.hid (HR.out.kpt (S.Kpt.of_below (S := []) hB1) (fun x hx => by cases hx))
  rw [htc, hb1]
  clear hb1 htc hX1 hX2 hB1 hne c0 c1 HK HR
  have e72 : ∀ args w, (callFunc 72 args).run Tryz.prog w = .ok (.enter 72 args) w := enters_of Tryz.func72 (by kernel_rfl) rfl
  have e77 : ∀ args w, (callFunc 77 args).run Tryz.prog w = .ok (.enter 77 args) w := enters_of Tryz.func77 (by kernel_rfl) rfl
  have hcon := hasI_mth pm cm (fun b => b < N) c.methods 72 #[.pointer (some ⟨tc, 0, none⟩), .pointer (some ⟨b1, 0, none⟩)] (oddM K c.kind) (fun W => LkW W N lb fb tb mt vs K ∧ S.Kpt [fb] w1 W) w1 ⟨HK1.out, S.Kpt.refl _ _⟩
    (fun W hW => (HR1.out.kpt hW.2 (fun x hx => by rw [List.mem_singleton.1 hx]; exact hNf)).2.2) (by omega) e72
    (fun W x pp pc ph np cp nc cc nh ch hx hW hmp => (oddM_h N lb fb tb mt vs K b1 tc c.kind _ _ _ _ _ x pp pc ph np cp nc cc nh ch _ W hW.1 (HMS.out x hx).1 hmp (hW.2.block HX1.out (by simpa using HNE.out.1)) (hW.2.block HX2.out (by simpa using HNE.out.2))).mono (fun e w' hh => ⟨hh.1, hW.1.below hh.2, hW.2.trans (S.Kpt.of_below (S := [fb]) hh.2) (fun y hy => .inl hy)⟩))
  have HIF : Hid (mthsK K c = (c.methods.any (oddM K c.kind) || twiceB (c.methods.map keyM))) := Lib.hid rfl
  obtain ⟨a, ha⟩ : ∃ y, c.methods.any (oddM K c.kind) = y := ⟨_, rfl⟩
  rw [ha] at hcon HIF
  have HC := Lib.hid hcon
  have HT := Lib.hid (fun (W : World) (hW : S.Kpt [fb] w1 W) => twice_mth pm cm (fun b => b < N) c.methods 77 keyM W (HR1.out.kpt hW (fun x hx => by rw [List.mem_singleton.1 hx]; exact hNf)).2.2 (by omega) (fun x hx => by
      have h1 := typM_size (HMS.out x hx).1
      have h2 := (HMS.out x hx).2
      have : keyM x = x.name ++ typM x := rfl
      rw [this, ByteArray.size_append]
      unfold maxLen
      omega) e77 (fun W' x pp pc ph np cp nc cc nh ch hx _ hmp => by
      have hps : RdX 2 (sP tyC) (fun b => b < N) W' (.slice pp np cp) x.params := by
        obtain ⟨_, _, _, e, k, _, _⟩ := hmp
        simp only [List.cons.injEq, and_true] at e
        obtain ⟨-, rfl, -⟩ := e
        exact k
      exact key_any x.name _ x.params x.ret.1 x.ret.2 x.st x.ab x.locals _ _ W' (rdT_m hps) (HMS.out x hx).1.1 (HMS.out x hx).1.2.1 (HMS.out x hx).1.2.2 (HMS.out x hx).2))
  obtain ⟨t, ht⟩ : ∃ y, twiceB (c.methods.map keyM) = y := ⟨_, rfl⟩
  rw [ht] at HT HIF
  clear hcon ha ht e72 e77
  obtain ⟨tl, x0, x1, x2, x3, x4, x5⟩ := cells6 HX2.out
  cases a with
  | true =>
    go_wp2_with (go_at_call 75; refine HC.out.mono ?_; rintro e w2 ⟨rfl, hk2, hp2⟩; have HK2 := Lib.hid hk2; have HP2 := Lib.hid hp2; have hX2' := hp2.block HX2.out (by simpa using HNE.out.2); clear hk2 hp2 tl x0 x1 x2 x3 x4 x5; obtain ⟨tl, x0, x1, x2, x3, x4, x5⟩ := cells6 hX2'; clear hX2')
    go_ret
    exact ⟨by rw [HIF.out]; rfl, HK2.out, (S.Kpt.of_below (S := [fb]) HB1.out).trans HP2.out (fun y hy => .inl hy)⟩
  | false =>
    go_wp2_with first
      | (go_at_call 75; refine HC.out.mono ?_; rintro e w2 ⟨rfl, hk2, hp2⟩; have HK2 := Lib.hid hk2; have HP2 := Lib.hid hp2; have hX2' := hp2.block HX2.out (by simpa using HNE.out.2); clear hk2 hp2 tl x0 x1 x2 x3 x4 x5; obtain ⟨tl, x0, x1, x2, x3, x4, x5⟩ := cells6 hX2'; clear hX2')
      | (go_at_call 76; refine (HT.out _ HP2.out).mono ?_; rintro e w3 ⟨rfl, hb3⟩; have HK3 := Lib.hid (HK2.out.below hb3); have HP3 := Lib.hid (HP2.out.trans (S.Kpt.of_below (S := [fb]) hb3) (fun y hy => .inl hy)); clear hb3)
    go_ret
    exact ⟨by rw [HIF.out]; first | rfl | simp, HK3.out, (S.Kpt.of_below (S := [fb]) HB1.out).trans HP3.out (fun y hy => .inl hy)⟩
end Go.Proofs.YtlmpnmnfloeoiaaGreat.R
namespace Go.Proofs.YtlmpnmnfloeoiaaGreat.R
open Go.RowKit Go.Proofs.YtlmpnmnfloeoiaaGreat.D Go.Proofs.YtlmpnmnfloeoiaaGreat.O Go.Proofs.YtlmpnmnfloeoiaaGreat.A
theorem once_full {l : List ByteArray} (h : (S.onceL l).length = l.length) : l.Nodup := by
  refine S.rev_ind (P := fun l => (S.onceL l).length = l.length → l.Nodup) (fun _ => List.nodup_nil) (fun l x ih h => ?_) l h
  rw [S.onceL_snoc, List.length_append] at h
  have h1 := S.onceL_len l
  by_cases hx : x ∈ S.onceL l
  · rw [S.addS_in hx] at h
    simp at h
    omega
  · rw [S.addS_out hx, List.length_append] at h
    have h2 : (S.onceL l).length = l.length := by simpa using h
    rw [List.nodup_append]
    exact ⟨ih h2, by simp, fun y hy z hz e => hx (by rw [List.mem_singleton.1 hz] at e; rw [← e]; exact (S.onceL_mem l y).2 hy)⟩
theorem not_twice {l : List ByteArray} (h : twiceB l = false) : l.Nodup := by
  unfold twiceB at h
  rw [decide_eq_false_iff_not] at h
  have := S.onceL_len l
  exact once_full (by omega)
theorem sgs_keys {K : List Cls} {c : Cls} (hc : clsK K c.name = c) (h : mthsK K c = false) : ((sgsK K c.name).map (·.2.2.1)).Nodup := by
  unfold mthsK at h
  rw [Bool.or_eq_false_iff] at h
  have := not_twice h.2
  unfold sgsK
  rw [hc, List.map_map]
  exact this
theorem inj_key {own : List Sg} (hn : (own.map (·.2.2.1)).Nodup) {o o' : Sg} (h1 : o ∈ own) (h2 : o' ∈ own) (he : o.2.2.1 = o'.2.2.1) : o = o' := by
  induction own with
  | nil => cases h1
  | cons a l ih =>
    rw [List.map_cons, List.nodup_cons] at hn
    rcases List.mem_cons.1 h1 with g1 | g1
    · rcases List.mem_cons.1 h2 with g2 | g2
      · rw [g1, g2]
      · exact absurd (List.mem_map.2 ⟨o', g2, by rw [← he, g1]⟩) hn.1
    · rcases List.mem_cons.1 h2 with g2 | g2
      · exact absurd (List.mem_map.2 ⟨o, g1, by rw [he, g2]⟩) hn.1
      · exact ih hn.2 g1 g2
theorem unlike_in {own : List Sg} (hn : (own.map (·.2.2.1)).Nodup) {o s : Sg} (ho : o ∈ own) (he : o.2.2.1 = s.2.2.1) : unlikeB own s = decide (o.2.2.2.1 ≠ s.2.2.2.1) := by
  unfold unlikeB
  rw [Bool.eq_iff_iff, List.any_eq_true]
  constructor
  · rintro ⟨o', h1, h2⟩
    simp only [Bool.and_eq_true, decide_eq_true_eq] at h2
    rw [inj_key hn ho h1 (he.trans h2.1.symm)]
    exact decide_eq_true h2.2
  · intro h
    exact ⟨o, ho, by simp only [Bool.and_eq_true, decide_eq_true_eq]; exact ⟨he, of_decide_eq_true h⟩⟩
theorem unlike_out {own : List Sg} {s : Sg} (h : s.2.2.1 ∉ own.map (·.2.2.1)) : unlikeB own s = false := by
  unfold unlikeB
  rw [List.any_eq_false]
  intro o ho
  simp only [Bool.and_eq_true, decide_eq_true_eq, not_and]
  exact fun e => absurd (List.mem_map.2 ⟨o, ho, e⟩) h
abbrev Ow (w : World) (b : Nat) (own : List Sg) (L : List ByteArray) : Prop := S.Mv 9 S.qS S.okS smk (fun k s => s ∈ own ∧ s.2.2.1 = k) w b L
theorem zero_sign (w : World) : (zeroValue 104).run Tryz.prog w = .ok (smk (es, es, es, false, false)) w := by kernel_rfl
set_option maxHeartbeats 4000000 in
set_option maxRecDepth 100000 in
theorem unlike_h (ob mb : Nat) (own : List Sg) (L : List ByteArray) (s : Sg) (w : World) (hb : w.heap[ob]? = some (.cells #[.map (some mb)] 136 (0, 0))) (h : Ow w mb own L) (hL : ∀ k, k ∈ L ↔ k ∈ own.map (·.2.2.1)) (hn : (own.map (·.2.2.1)).Nodup) (hs : s.2.2.1.size ≤ maxLen) :
    Calls Tryz.prog 78 (#[.agg #[.string s.1, .string s.2.1, .string s.2.2.1, .bool s.2.2.2.1, .bool s.2.2.2.2]] ++ #[.pointer (some ⟨ob, 0, none⟩)]) w fun e w' => e = .returned (.bool (unlikeB own s)) ∧ Below w.heap.size w w' := by
  obtain ⟨nm, ty, ky, st, ab⟩ := s
  show Calls _ _ #[.agg #[.string nm, .string ty, .string ky, .bool st, .bool ab], .pointer (some ⟨ob, 0, none⟩)] _ _
  have hol : ob < w.heap.size := (Array.getElem?_eq_some_iff.1 hb).1
  have one : ob ≠ w.heap.size := by omega
  have y0 : w.cell? ⟨ob, 0, none⟩ = some (.map (some mb)) := by simp [World.cell?, hb]
  have kz : S.Kpt [] w (w.alloc (.cells #[.string nm, .string ty, .string ky, .bool st, .bool ab] 104)) := S.Kpt.alloc _ _ _
  by_cases hin : ky ∈ L
  · obtain ⟨o, hat, ho, hok⟩ := h.at hin
    have hU := unlike_in hn ho (s := (nm, ty, ky, st, ab)) hok
    have hat2 := hat.kpt kz (by simp)
    have HU := Lib.hid hU
    obtain ⟨onm, oty, oky, ost, oab⟩ := o
    clear hat kz hU ho hok hin h hL hn hb
    have HV : Hid (unlikeB own (nm, ty, ky, st, ab) = (ost != st)) := Lib.hid (by rw [HU.out]; cases ost <;> cases st <;> rfl)
    go_enter Tryz.func78, Tryz.ntmps78
    go_wp2_with (at_lookup; refine S.wp_look_at kdS Tryz.underlying136 (es, es, es, false, false) (zero_sign _) rfl _ _ rfl mb rfl ky (onm, oty, oky, ost, oab) hat2 hs rfl ?_)
    go_ret
    exact ⟨by rw [HV.out]; rfl, ((Below.refl _ w).alloc (Nat.le_refl _) _).alloc (by simp) _⟩
  · have hno := (h.no hs hin).kpt kz (by simp)
    have HV : Hid (unlikeB own (nm, ty, ky, st, ab) = false) := Lib.hid (unlike_out (fun hk => hin ((hL ky).2 hk)))
    clear kz hin h hL hn hb
    go_enter Tryz.func78, Tryz.ntmps78
    go_wp2_with (at_lookup; refine S.wp_look_no kdS Tryz.underlying136 (es, es, es, false, false) (zero_sign _) rfl _ _ rfl mb rfl ky hno hs rfl ?_)
    go_ret
    exact ⟨by rw [HV.out]; rfl, ((Below.refl _ w).alloc (Nat.le_refl _) _).alloc (by simp) _⟩
end Go.Proofs.YtlmpnmnfloeoiaaGreat.R
