/- Texts that the proof is made of, joined. No condition. -/
import Derived.Test.YtlmpnmnfloeoiaaGreatC1012
import Derived.Test.YtlmpnmnfloeoiaaGreatC1013
import Derived.Deep.RegionLaw
import Derived.Test.YtlmpnmnfloeoiaaGreatC10H
set_option linter.unusedVariables false
set_option linter.unusedSimpArgs false
set_option maxRecDepth 100000
set_option maxHeartbeats 16000000
namespace Go.Proofs.YtlmpnmnfloeoiaaGreat.R
open Go.RowKit Go.Proofs.YtlmpnmnfloeoiaaGreat.D Go.Proofs.YtlmpnmnfloeoiaaGreat.O Go.Proofs.YtlmpnmnfloeoiaaGreat.A
set_option maxHeartbeats 4000000 in
set_option maxRecDepth 100000 in
theorem wrongSuper_h (N lb fb tb mt : Nat) (vs : Value) (K : List Cls) (c : Cls) (pi pf pm : Option Addr) (ci cf cm : Nat) (w : World) (h : LkW w N lb fb tb mt vs K) (ha : AskH K) (hc : AskC K c) (_hr : ClR w N c pi pf pm ci cf cm) :
    Calls Tryz.prog 34 #[.pointer (some ⟨lb, 0, none⟩), .agg #[.string c.name, .string c.super, .slice pi c.ifaces.length ci, .int .i64 c.kind, .slice pf c.fields.length cf, .slice pm c.methods.length cm]] w fun e w' => e = .returned (.bool (supK K c)) ∧ LkW w' N lb fb tb mt vs K ∧ S.Kpt [fb] w w' := by
  obtain ⟨-, hsz, -, -⟩ := hc.sizes h
  have hask := ask_super hc.2.1
  have HK := Lib.hid h
  have HA := Lib.hid ha
  obtain ⟨hlb, hfb, hlf, c0, c1⟩ := h.cells
  clear h ha _hr hc
  have hB1 := below_alR w (.cells #[.string c.name, .string c.super, .slice pi c.ifaces.length ci, .int .i64 c.kind, .slice pf c.fields.length cf, .slice pm c.methods.length cm] 27)
  have hX1 := heap_alloc_new w (.cells #[.string c.name, .string c.super, .slice pi c.ifaces.length ci, .int .i64 c.kind, .slice pf c.fields.length cf, .slice pm c.methods.length cm] 27)
  have HS0 : Hid (supK K c = ((decide (c.kind = 4) && decide (c.super ≠ objT)) || (!knownT (K.map skOf) c.super || (decide (kindT (K.map skOf) c.super = 4) || decide (kindT (K.map skOf) c.super = 3))))) := Lib.hid rfl
  go_enter Tryz.func34, Tryz.ntmps34
  go_upto_region 1 with fail
  obtain ⟨w1, hw1⟩ : ∃ y, y = w.alloc (.cells #[.string c.name, .string c.super, .slice pi c.ifaces.length ci, .int .i64 c.kind, .slice pf c.fields.length cf, .slice pm c.methods.length cm] 27) := ⟨_, rfl⟩
  rw [← hw1] at hB1 hX1 ⊢
  clear hw1 c0 c1
  obtain ⟨tc, htc⟩ : ∃ y, w.heap.size = y := ⟨_, rfl⟩
  have HNE : Hid (tc ≠ fb) := Lib.hid (by omega)
  have HB1 := Lib.hid hB1
  have HK1 := Lib.hid (HK.out.below hB1)
  rw [htc] at hX1 ⊢
  clear hB1 htc
  obtain ⟨kd, hkd⟩ : ∃ y, c.kind = y := ⟨_, rfl⟩
  obtain ⟨sp, hsp⟩ : ∃ y, c.super = y := ⟨_, rfl⟩
  rw [hkd, hsp] at hX1
  rw [hkd, hsp] at HS0 ⊢
  rw [hsp] at hsz hask
  have HASK := Lib.hid hask
  have HX1 := Lib.hid hX1
  clear hkd hsp hX1 hask HK
  obtain ⟨tl, x0, x1, x2, x3, x4, x5⟩ := cells6 HX1.out
  by_cases hk : kd = 4
  · subst hk
    by_cases ho : sp = objT
    · have hot : (sp.toList == [79, 98, 106, 101, 99, 116]) = true := obj_eq ho
      have HS : Hid (supK K c = (!knownT (K.map skOf) sp || (decide (kindT (K.map skOf) sp = 4) || decide (kindT (K.map skOf) sp = 3)))) := Lib.hid (by rw [HS0.out]; simp [ho])
      clear ho HS0
      go_wp2_with fail
      refine (face_h N lb fb tb mt vs K sp w1 HK1.out hsz HA.out HASK.out).mono ?_
      rintro e w2 ⟨⟨fk, fp, fn, fc⟩, rfl, hfv, hk2_, hp2⟩
      have hfk : fk = kindT (K.map skOf) sp := hfv.1.trans (kind_cls K sp)
      have HK2 := Lib.hid hk2_
      have HP2 : Hid (S.Kpt [fb] w w2) := Lib.hid ((S.Kpt.of_below (S := [fb]) HB1.out).trans hp2 (fun y hy => .inl hy))
      rw [← hfk] at HS
      have hX2 := hp2.block HX1.out (by simpa using HNE.out)
      dsimp only [fmk]
      have hfs := field_kind fk fp fn fc w2
      clear hfv hk2_ hp2 hfk tl x0 x1 x2 x3 x4 x5
      go_upto_region 4 with fail
      clear hfs
      have hbd : Below w2.heap.size w2 w2.drew := (Below.refl _ _).drew
      have HK3 := Lib.hid (HK2.out.below hbd)
      have HP3 := Lib.hid (HP2.out.trans (S.Kpt.of_below (S := [fb]) hbd) (fun y hy => .inl hy))
      obtain ⟨-, -, -, c0, c1⟩ := HK3.out.cells
      obtain ⟨tl, x0, x1, x2, x3, x4, x5⟩ := cells6 (W := w2.drew) hX2
      have hkt := known_t _ tb mt vs K sp w2.drew HK3.out.1 hsz
      obtain ⟨r, hr⟩ : ∃ y, knownT (K.map skOf) sp = y := ⟨_, rfl⟩
      rw [hr] at hkt HS
      clear hr hbd hX2 HK2 HP2
      cases r with
      | false =>
        have HH : Hid (w2.drew.cell? ⟨lb, 0, none⟩ = some (.pointer (some ⟨tb, 0, none⟩)) ∧ w2.drew.cell? ⟨tc, 1, none⟩ = some (.string sp)) := Lib.hid ⟨c0, x1⟩
        refine wp_region_held_drew (S := fun W => W.cell? ⟨lb, 0, none⟩ = some (.pointer (some ⟨tb, 0, none⟩)) ∧ W.cell? ⟨tc, 1, none⟩ = some (.string sp)) (by kernel_rfl) HH.out (fun hHeld => ?_)
        refine wpAnyH_take (i := 0) (oi := _) (v := ?_) (by simp only [List.getElem?_toArray, List.getElem?_cons_zero]; rfl) (by kernel_rfl) (by kernel_rfl) (by kernel_rfl) (by intro _ _ _ h; exact h) (Or.inl ⟨by rfl, fun W hSw => ?_⟩) hHeld ?_
        rotate_left 1
        · (clear hSw; first | (go_simp; done) | (go_simp; with_reducible rfl))
        try go_frame
        refine wpAnyH_take (i := 1) (oi := _) (v := ?_) (by simp only [List.getElem?_toArray, List.getElem?_cons_succ, List.getElem?_cons_zero]; rfl) (by kernel_rfl) (by kernel_rfl) (by kernel_rfl) (by intro _ _ _ h; exact h) (Or.inl ⟨by rfl, fun W hSw => ?_⟩) hHeld ?_
        rotate_left 1
        · (clear hSw; first | (go_simp; done) | (go_simp; with_reducible rfl))
        try go_frame
        refine wpAnyH_take (i := 2) (oi := _) (v := ?_) (by simp only [List.getElem?_toArray, List.getElem?_cons_succ, List.getElem?_cons_zero]; rfl) (by kernel_rfl) (by kernel_rfl) (by kernel_rfl) (by intro _ _ _ h; exact h) (Or.inl ⟨by rfl, fun W hSw => ?_⟩) hHeld ?_
        rotate_left 1
        · (clear hSw; first | (go_simp; done) | (go_simp; with_reducible rfl))
        try go_frame
        refine wpAnyH_take (i := 3) (oi := _) (v := ?_) (by simp only [List.getElem?_toArray, List.getElem?_cons_succ, List.getElem?_cons_zero]; rfl) (by kernel_rfl) (by kernel_rfl) (by kernel_rfl) (by intro _ _ _ h; exact h) (Or.inl ⟨by rfl, fun W hSw => ?_⟩) hHeld ?_
        rotate_left 1
        · (try dsimp only at hSw); first | (go_simp; done) | (go_simp; with_reducible rfl)
        try go_frame
        refine wpAnyH_take (i := 4) (oi := _) (v := ?_) (by simp only [List.getElem?_toArray, List.getElem?_cons_succ, List.getElem?_cons_zero]; rfl) (by kernel_rfl) (by kernel_rfl) (by kernel_rfl) (by intro _ _ _ h; exact h) (Or.inl ⟨by rfl, fun W hSw => ?_⟩) hHeld ?_
        rotate_left 1
        · (clear hSw; first | (go_simp; done) | (go_simp; with_reducible rfl))
        try go_frame
        refine wpAnyH_take (i := 5) (oi := _) (v := ?_) (by simp only [List.getElem?_toArray, List.getElem?_cons_succ, List.getElem?_cons_zero]; rfl) (by kernel_rfl) (by kernel_rfl) (by kernel_rfl) (by intro _ _ _ h; exact h) (Or.inl ⟨by rfl, fun W hSw => ?_⟩) hHeld ?_
        rotate_left 1
        · (try dsimp only at hSw); first | (go_simp; done) | (go_simp; with_reducible rfl)
        try go_frame
        refine wpAnyH_ready (rs := [6]) (by kernel_rfl) (by simp) ?_
        refine AllReadyH.cons (o := _) (by simp only [List.getElem?_toArray, List.getElem?_cons_succ, List.getElem?_cons_zero]; rfl) (fun K hK => ?_) AllReadyH.nil
        clear hHeld
        go_simp
        refine hkt.mono ?_
        rintro e w4 ⟨rfl, hb4⟩
        have HK4 := Lib.hid (HK3.out.below hb4)
        have HP4 := Lib.hid (HP3.out.trans (S.Kpt.of_below (S := [fb]) hb4) (fun y hy => .inl hy))
        have HH : Hid (w4.cell? ⟨lb, 0, none⟩ = some (.pointer (some ⟨tb, 0, none⟩)) ∧ w4.cell? ⟨tc, 1, none⟩ = some (.string sp)) := Lib.hid ⟨HK4.out.cells.2.2.2.1, (hb4.cell tl).trans x1⟩
        clear hb4
        refine hK.out _ _ HH.out (fun hHeld => ?_)
        clear hK K
        try go_frame
        refine wpAnyH_take (i := 7) (oi := _) (v := ?_) (by simp only [List.getElem?_toArray, List.getElem?_cons_succ, List.getElem?_cons_zero]; rfl) (by kernel_rfl) (by kernel_rfl) (by kernel_rfl) (by intro _ _ _ h; exact h) (Or.inl ⟨by rfl, fun W hSw => ?_⟩) hHeld ?_
        rotate_left 1
        · (clear hSw; first | (go_simp; done) | (go_simp; with_reducible rfl))
        try go_frame
        refine wpAnyH_take (i := 8) (oi := _) (v := ?_) (by simp only [List.getElem?_toArray, List.getElem?_cons_succ, List.getElem?_cons_zero]; rfl) (by kernel_rfl) (by kernel_rfl) (by kernel_rfl) (by intro _ _ _ h; exact h) (Or.inl ⟨by rfl, fun W hSw => ?_⟩) hHeld ?_
        rotate_left 1
        · (clear hSw; first | (go_simp; done) | (go_simp; with_reducible rfl))
        try go_frame
        refine wpAnyH_take (i := 9) (oi := _) (v := undef) (by simp only [List.getElem?_toArray, List.getElem?_cons_succ, List.getElem?_cons_zero]; rfl) (by kernel_rfl) (by kernel_rfl) (by kernel_rfl) (by intro _ _ _ h; exact h) (Or.inr ⟨by rfl, rfl⟩) hHeld ?_
        try go_frame
        refine wpAnyH_take (i := 10) (oi := _) (v := undef) (by simp only [List.getElem?_toArray, List.getElem?_cons_succ, List.getElem?_cons_zero]; rfl) (by kernel_rfl) (by kernel_rfl) (by kernel_rfl) (by intro _ _ _ h; exact h) (Or.inr ⟨by rfl, rfl⟩) hHeld ?_
        try go_frame
        refine wpAnyH_take (i := 11) (oi := _) (v := ?_) (by simp only [List.getElem?_toArray, List.getElem?_cons_succ, List.getElem?_cons_zero]; rfl) (by kernel_rfl) (by kernel_rfl) (by kernel_rfl) (by intro _ _ _ h; exact h) (Or.inl ⟨by rfl, fun W hSw => ?_⟩) hHeld ?_
        rotate_left 1
        · (clear hSw; first | (go_simp; done) | (go_simp; with_reducible rfl))
        try go_frame
        refine wpAnyH_take (i := 12) (oi := _) (v := ?_) (by simp only [List.getElem?_toArray, List.getElem?_cons_succ, List.getElem?_cons_zero]; rfl) (by kernel_rfl) (by kernel_rfl) (by kernel_rfl) (by intro _ _ _ h; exact h) (Or.inl ⟨by rfl, fun W hSw => ?_⟩) hHeld ?_
        rotate_left 1
        · (clear hSw; first | (go_simp; done) | (go_simp; with_reducible rfl))
        try go_frame
        refine wpAnyH_take (i := 13) (oi := _) (v := undef) (by simp only [List.getElem?_toArray, List.getElem?_cons_succ, List.getElem?_cons_zero]; rfl) (by kernel_rfl) (by kernel_rfl) (by kernel_rfl) (by intro _ _ _ h; exact h) (Or.inr ⟨by rfl, rfl⟩) hHeld ?_
        try go_frame
        refine wpAnyH_take (i := 14) (oi := _) (v := undef) (by simp only [List.getElem?_toArray, List.getElem?_cons_succ, List.getElem?_cons_zero]; rfl) (by kernel_rfl) (by kernel_rfl) (by kernel_rfl) (by intro _ _ _ h; exact h) (Or.inr ⟨by rfl, rfl⟩) hHeld ?_
        try go_frame
        refine wpAnyH_take (i := 15) (oi := _) (v := ?_) (by simp only [List.getElem?_toArray, List.getElem?_cons_succ, List.getElem?_cons_zero]; rfl) (by kernel_rfl) (by kernel_rfl) (by kernel_rfl) (by intro _ _ _ h; exact h) (Or.inl ⟨by rfl, fun W hSw => ?_⟩) hHeld ?_
        rotate_left 1
        · (clear hSw; first | (go_simp; done) | (go_simp; with_reducible rfl))
        try go_frame
        refine wpAnyH_take (i := 16) (oi := _) (v := ?_) (by simp only [List.getElem?_toArray, List.getElem?_cons_succ, List.getElem?_cons_zero]; rfl) (by kernel_rfl) (by kernel_rfl) (by kernel_rfl) (by intro _ _ _ h; exact h) (Or.inl ⟨by rfl, fun W hSw => ?_⟩) hHeld ?_
        rotate_left 1
        · (clear hSw; first | (go_simp; done) | (go_simp; with_reducible rfl))
        try go_frame
        refine wpAnyH_done (by kernel_rfl) ?_ _
        clear hHeld HH
        go_wp2_with fail
        go_ret
        exact ⟨by rw [HS.out]; first | rfl | simp, HK4.out, HP4.out⟩
      | true =>
        by_cases h4 : fk = 4
        · subst h4
          have HH : Hid (w2.drew.cell? ⟨lb, 0, none⟩ = some (.pointer (some ⟨tb, 0, none⟩)) ∧ w2.drew.cell? ⟨tc, 1, none⟩ = some (.string sp)) := Lib.hid ⟨c0, x1⟩
          refine wp_region_held_drew (S := fun W => W.cell? ⟨lb, 0, none⟩ = some (.pointer (some ⟨tb, 0, none⟩)) ∧ W.cell? ⟨tc, 1, none⟩ = some (.string sp)) (by kernel_rfl) HH.out (fun hHeld => ?_)
          refine wpAnyH_take (i := 0) (oi := _) (v := ?_) (by simp only [List.getElem?_toArray, List.getElem?_cons_zero]; rfl) (by kernel_rfl) (by kernel_rfl) (by kernel_rfl) (by intro _ _ _ h; exact h) (Or.inl ⟨by rfl, fun W hSw => ?_⟩) hHeld ?_
          rotate_left 1
          · (clear hSw; first | (go_simp; done) | (go_simp; with_reducible rfl))
          try go_frame
          refine wpAnyH_take (i := 1) (oi := _) (v := ?_) (by simp only [List.getElem?_toArray, List.getElem?_cons_succ, List.getElem?_cons_zero]; rfl) (by kernel_rfl) (by kernel_rfl) (by kernel_rfl) (by intro _ _ _ h; exact h) (Or.inl ⟨by rfl, fun W hSw => ?_⟩) hHeld ?_
          rotate_left 1
          · (clear hSw; first | (go_simp; done) | (go_simp; with_reducible rfl))
          try go_frame
          refine wpAnyH_take (i := 2) (oi := _) (v := ?_) (by simp only [List.getElem?_toArray, List.getElem?_cons_succ, List.getElem?_cons_zero]; rfl) (by kernel_rfl) (by kernel_rfl) (by kernel_rfl) (by intro _ _ _ h; exact h) (Or.inl ⟨by rfl, fun W hSw => ?_⟩) hHeld ?_
          rotate_left 1
          · (clear hSw; first | (go_simp; done) | (go_simp; with_reducible rfl))
          try go_frame
          refine wpAnyH_take (i := 3) (oi := _) (v := ?_) (by simp only [List.getElem?_toArray, List.getElem?_cons_succ, List.getElem?_cons_zero]; rfl) (by kernel_rfl) (by kernel_rfl) (by kernel_rfl) (by intro _ _ _ h; exact h) (Or.inl ⟨by rfl, fun W hSw => ?_⟩) hHeld ?_
          rotate_left 1
          · (try dsimp only at hSw); first | (go_simp; done) | (go_simp; with_reducible rfl)
          try go_frame
          refine wpAnyH_take (i := 4) (oi := _) (v := ?_) (by simp only [List.getElem?_toArray, List.getElem?_cons_succ, List.getElem?_cons_zero]; rfl) (by kernel_rfl) (by kernel_rfl) (by kernel_rfl) (by intro _ _ _ h; exact h) (Or.inl ⟨by rfl, fun W hSw => ?_⟩) hHeld ?_
          rotate_left 1
          · (clear hSw; first | (go_simp; done) | (go_simp; with_reducible rfl))
          try go_frame
          refine wpAnyH_take (i := 5) (oi := _) (v := ?_) (by simp only [List.getElem?_toArray, List.getElem?_cons_succ, List.getElem?_cons_zero]; rfl) (by kernel_rfl) (by kernel_rfl) (by kernel_rfl) (by intro _ _ _ h; exact h) (Or.inl ⟨by rfl, fun W hSw => ?_⟩) hHeld ?_
          rotate_left 1
          · (try dsimp only at hSw); first | (go_simp; done) | (go_simp; with_reducible rfl)
          try go_frame
          refine wpAnyH_ready (rs := [6]) (by kernel_rfl) (by simp) ?_
          refine AllReadyH.cons (o := _) (by simp only [List.getElem?_toArray, List.getElem?_cons_succ, List.getElem?_cons_zero]; rfl) (fun K hK => ?_) AllReadyH.nil
          clear hHeld
          go_simp
          refine hkt.mono ?_
          rintro e w4 ⟨rfl, hb4⟩
          have HK4 := Lib.hid (HK3.out.below hb4)
          have HP4 := Lib.hid (HP3.out.trans (S.Kpt.of_below (S := [fb]) hb4) (fun y hy => .inl hy))
          have HH : Hid (w4.cell? ⟨lb, 0, none⟩ = some (.pointer (some ⟨tb, 0, none⟩)) ∧ w4.cell? ⟨tc, 1, none⟩ = some (.string sp)) := Lib.hid ⟨HK4.out.cells.2.2.2.1, (hb4.cell tl).trans x1⟩
          clear hb4
          refine hK.out _ _ HH.out (fun hHeld => ?_)
          clear hK K
          try go_frame
          refine wpAnyH_take (i := 7) (oi := _) (v := ?_) (by simp only [List.getElem?_toArray, List.getElem?_cons_succ, List.getElem?_cons_zero]; rfl) (by kernel_rfl) (by kernel_rfl) (by kernel_rfl) (by intro _ _ _ h; exact h) (Or.inl ⟨by rfl, fun W hSw => ?_⟩) hHeld ?_
          rotate_left 1
          · (clear hSw; first | (go_simp; done) | (go_simp; with_reducible rfl))
          try go_frame
          refine wpAnyH_take (i := 8) (oi := _) (v := ?_) (by simp only [List.getElem?_toArray, List.getElem?_cons_succ, List.getElem?_cons_zero]; rfl) (by kernel_rfl) (by kernel_rfl) (by kernel_rfl) (by intro _ _ _ h; exact h) (Or.inl ⟨by rfl, fun W hSw => ?_⟩) hHeld ?_
          rotate_left 1
          · (clear hSw; first | (go_simp; done) | (go_simp; with_reducible rfl))
          try go_frame
          refine wpAnyH_take (i := 9) (oi := _) (v := ?_) (by simp only [List.getElem?_toArray, List.getElem?_cons_succ, List.getElem?_cons_zero]; rfl) (by kernel_rfl) (by kernel_rfl) (by kernel_rfl) (by intro _ _ _ h; exact h) (Or.inl ⟨by rfl, fun W hSw => ?_⟩) hHeld ?_
          rotate_left 1
          · (clear hSw; first | (go_simp; done) | (go_simp; with_reducible rfl))
          try go_frame
          refine wpAnyH_take (i := 10) (oi := _) (v := ?_) (by simp only [List.getElem?_toArray, List.getElem?_cons_succ, List.getElem?_cons_zero]; rfl) (by kernel_rfl) (by kernel_rfl) (by kernel_rfl) (by intro _ _ _ h; exact h) (Or.inl ⟨by rfl, fun W hSw => ?_⟩) hHeld ?_
          rotate_left 1
          · (clear hSw; first | (go_simp; done) | (go_simp; with_reducible rfl))
          try go_frame
          refine wpAnyH_take (i := 11) (oi := _) (v := ?_) (by simp only [List.getElem?_toArray, List.getElem?_cons_succ, List.getElem?_cons_zero]; rfl) (by kernel_rfl) (by kernel_rfl) (by kernel_rfl) (by intro _ _ _ h; exact h) (Or.inl ⟨by rfl, fun W hSw => ?_⟩) hHeld ?_
          rotate_left 1
          · (clear hSw; first | (go_simp; done) | (go_simp; with_reducible rfl))
          try go_frame
          refine wpAnyH_take (i := 12) (oi := _) (v := ?_) (by simp only [List.getElem?_toArray, List.getElem?_cons_succ, List.getElem?_cons_zero]; rfl) (by kernel_rfl) (by kernel_rfl) (by kernel_rfl) (by intro _ _ _ h; exact h) (Or.inl ⟨by rfl, fun W hSw => ?_⟩) hHeld ?_
          rotate_left 1
          · (clear hSw; first | (go_simp; done) | (go_simp; with_reducible rfl))
          try go_frame
          refine wpAnyH_take (i := 13) (oi := _) (v := undef) (by simp only [List.getElem?_toArray, List.getElem?_cons_succ, List.getElem?_cons_zero]; rfl) (by kernel_rfl) (by kernel_rfl) (by kernel_rfl) (by intro _ _ _ h; exact h) (Or.inr ⟨by rfl, rfl⟩) hHeld ?_
          try go_frame
          refine wpAnyH_take (i := 14) (oi := _) (v := undef) (by simp only [List.getElem?_toArray, List.getElem?_cons_succ, List.getElem?_cons_zero]; rfl) (by kernel_rfl) (by kernel_rfl) (by kernel_rfl) (by intro _ _ _ h; exact h) (Or.inr ⟨by rfl, rfl⟩) hHeld ?_
          try go_frame
          refine wpAnyH_take (i := 15) (oi := _) (v := ?_) (by simp only [List.getElem?_toArray, List.getElem?_cons_succ, List.getElem?_cons_zero]; rfl) (by kernel_rfl) (by kernel_rfl) (by kernel_rfl) (by intro _ _ _ h; exact h) (Or.inl ⟨by rfl, fun W hSw => ?_⟩) hHeld ?_
          rotate_left 1
          · (clear hSw; first | (go_simp; done) | (go_simp; with_reducible rfl))
          try go_frame
          refine wpAnyH_take (i := 16) (oi := _) (v := ?_) (by simp only [List.getElem?_toArray, List.getElem?_cons_succ, List.getElem?_cons_zero]; rfl) (by kernel_rfl) (by kernel_rfl) (by kernel_rfl) (by intro _ _ _ h; exact h) (Or.inl ⟨by rfl, fun W hSw => ?_⟩) hHeld ?_
          rotate_left 1
          · (clear hSw; first | (go_simp; done) | (go_simp; with_reducible rfl))
          try go_frame
          refine wpAnyH_done (by kernel_rfl) ?_ _
          clear hHeld HH
          go_wp2_with fail
          go_ret
          exact ⟨by rw [HS.out]; first | rfl | simp, HK4.out, HP4.out⟩
        · have h4a : (fk == (4 : Int)) = false := by simpa using h4
          have h4b : decide (fk = (4 : Int)) = false := by simpa using h4
          by_cases h3 : fk = 3
          · subst h3
            have HH : Hid (w2.drew.cell? ⟨lb, 0, none⟩ = some (.pointer (some ⟨tb, 0, none⟩)) ∧ w2.drew.cell? ⟨tc, 1, none⟩ = some (.string sp)) := Lib.hid ⟨c0, x1⟩
            refine wp_region_held_drew (S := fun W => W.cell? ⟨lb, 0, none⟩ = some (.pointer (some ⟨tb, 0, none⟩)) ∧ W.cell? ⟨tc, 1, none⟩ = some (.string sp)) (by kernel_rfl) HH.out (fun hHeld => ?_)
            refine wpAnyH_take (i := 0) (oi := _) (v := ?_) (by simp only [List.getElem?_toArray, List.getElem?_cons_zero]; rfl) (by kernel_rfl) (by kernel_rfl) (by kernel_rfl) (by intro _ _ _ h; exact h) (Or.inl ⟨by rfl, fun W hSw => ?_⟩) hHeld ?_
            rotate_left 1
            · (clear hSw; first | (go_simp; done) | (go_simp; with_reducible rfl))
            try go_frame
            refine wpAnyH_take (i := 1) (oi := _) (v := ?_) (by simp only [List.getElem?_toArray, List.getElem?_cons_succ, List.getElem?_cons_zero]; rfl) (by kernel_rfl) (by kernel_rfl) (by kernel_rfl) (by intro _ _ _ h; exact h) (Or.inl ⟨by rfl, fun W hSw => ?_⟩) hHeld ?_
            rotate_left 1
            · (clear hSw; first | (go_simp; done) | (go_simp; with_reducible rfl))
            try go_frame
            refine wpAnyH_take (i := 2) (oi := _) (v := ?_) (by simp only [List.getElem?_toArray, List.getElem?_cons_succ, List.getElem?_cons_zero]; rfl) (by kernel_rfl) (by kernel_rfl) (by kernel_rfl) (by intro _ _ _ h; exact h) (Or.inl ⟨by rfl, fun W hSw => ?_⟩) hHeld ?_
            rotate_left 1
            · (clear hSw; first | (go_simp; done) | (go_simp; with_reducible rfl))
            try go_frame
            refine wpAnyH_take (i := 3) (oi := _) (v := ?_) (by simp only [List.getElem?_toArray, List.getElem?_cons_succ, List.getElem?_cons_zero]; rfl) (by kernel_rfl) (by kernel_rfl) (by kernel_rfl) (by intro _ _ _ h; exact h) (Or.inl ⟨by rfl, fun W hSw => ?_⟩) hHeld ?_
            rotate_left 1
            · (try dsimp only at hSw); first | (go_simp; done) | (go_simp; with_reducible rfl)
            try go_frame
            refine wpAnyH_take (i := 4) (oi := _) (v := ?_) (by simp only [List.getElem?_toArray, List.getElem?_cons_succ, List.getElem?_cons_zero]; rfl) (by kernel_rfl) (by kernel_rfl) (by kernel_rfl) (by intro _ _ _ h; exact h) (Or.inl ⟨by rfl, fun W hSw => ?_⟩) hHeld ?_
            rotate_left 1
            · (clear hSw; first | (go_simp; done) | (go_simp; with_reducible rfl))
            try go_frame
            refine wpAnyH_take (i := 5) (oi := _) (v := ?_) (by simp only [List.getElem?_toArray, List.getElem?_cons_succ, List.getElem?_cons_zero]; rfl) (by kernel_rfl) (by kernel_rfl) (by kernel_rfl) (by intro _ _ _ h; exact h) (Or.inl ⟨by rfl, fun W hSw => ?_⟩) hHeld ?_
            rotate_left 1
            · (try dsimp only at hSw); first | (go_simp; done) | (go_simp; with_reducible rfl)
            try go_frame
            refine wpAnyH_ready (rs := [6]) (by kernel_rfl) (by simp) ?_
            refine AllReadyH.cons (o := _) (by simp only [List.getElem?_toArray, List.getElem?_cons_succ, List.getElem?_cons_zero]; rfl) (fun K hK => ?_) AllReadyH.nil
            clear hHeld
            go_simp
            refine hkt.mono ?_
            rintro e w4 ⟨rfl, hb4⟩
            have HK4 := Lib.hid (HK3.out.below hb4)
            have HP4 := Lib.hid (HP3.out.trans (S.Kpt.of_below (S := [fb]) hb4) (fun y hy => .inl hy))
            have HH : Hid (w4.cell? ⟨lb, 0, none⟩ = some (.pointer (some ⟨tb, 0, none⟩)) ∧ w4.cell? ⟨tc, 1, none⟩ = some (.string sp)) := Lib.hid ⟨HK4.out.cells.2.2.2.1, (hb4.cell tl).trans x1⟩
            clear hb4
            refine hK.out _ _ HH.out (fun hHeld => ?_)
            clear hK K
            try go_frame
            refine wpAnyH_take (i := 7) (oi := _) (v := ?_) (by simp only [List.getElem?_toArray, List.getElem?_cons_succ, List.getElem?_cons_zero]; rfl) (by kernel_rfl) (by kernel_rfl) (by kernel_rfl) (by intro _ _ _ h; exact h) (Or.inl ⟨by rfl, fun W hSw => ?_⟩) hHeld ?_
            rotate_left 1
            · (clear hSw; first | (go_simp; done) | (go_simp; with_reducible rfl))
            try go_frame
            refine wpAnyH_take (i := 8) (oi := _) (v := ?_) (by simp only [List.getElem?_toArray, List.getElem?_cons_succ, List.getElem?_cons_zero]; rfl) (by kernel_rfl) (by kernel_rfl) (by kernel_rfl) (by intro _ _ _ h; exact h) (Or.inl ⟨by rfl, fun W hSw => ?_⟩) hHeld ?_
            rotate_left 1
            · (clear hSw; first | (go_simp; done) | (go_simp; with_reducible rfl))
            try go_frame
            refine wpAnyH_take (i := 9) (oi := _) (v := ?_) (by simp only [List.getElem?_toArray, List.getElem?_cons_succ, List.getElem?_cons_zero]; rfl) (by kernel_rfl) (by kernel_rfl) (by kernel_rfl) (by intro _ _ _ h; exact h) (Or.inl ⟨by rfl, fun W hSw => ?_⟩) hHeld ?_
            rotate_left 1
            · (clear hSw; first | (go_simp; done) | (go_simp; with_reducible rfl))
            try go_frame
            refine wpAnyH_take (i := 10) (oi := _) (v := ?_) (by simp only [List.getElem?_toArray, List.getElem?_cons_succ, List.getElem?_cons_zero]; rfl) (by kernel_rfl) (by kernel_rfl) (by kernel_rfl) (by intro _ _ _ h; exact h) (Or.inl ⟨by rfl, fun W hSw => ?_⟩) hHeld ?_
            rotate_left 1
            · (clear hSw; first | (go_simp; done) | (go_simp; with_reducible rfl))
            try go_frame
            refine wpAnyH_take (i := 11) (oi := _) (v := ?_) (by simp only [List.getElem?_toArray, List.getElem?_cons_succ, List.getElem?_cons_zero]; rfl) (by kernel_rfl) (by kernel_rfl) (by kernel_rfl) (by intro _ _ _ h; exact h) (Or.inl ⟨by rfl, fun W hSw => ?_⟩) hHeld ?_
            rotate_left 1
            · (clear hSw; first | (go_simp; done) | (go_simp; with_reducible rfl))
            try go_frame
            refine wpAnyH_take (i := 12) (oi := _) (v := ?_) (by simp only [List.getElem?_toArray, List.getElem?_cons_succ, List.getElem?_cons_zero]; rfl) (by kernel_rfl) (by kernel_rfl) (by kernel_rfl) (by intro _ _ _ h; exact h) (Or.inl ⟨by rfl, fun W hSw => ?_⟩) hHeld ?_
            rotate_left 1
            · (clear hSw; first | (go_simp; done) | (go_simp; with_reducible rfl))
            try go_frame
            refine wpAnyH_take (i := 13) (oi := _) (v := ?_) (by simp only [List.getElem?_toArray, List.getElem?_cons_succ, List.getElem?_cons_zero]; rfl) (by kernel_rfl) (by kernel_rfl) (by kernel_rfl) (by intro _ _ _ h; exact h) (Or.inl ⟨by rfl, fun W hSw => ?_⟩) hHeld ?_
            rotate_left 1
            · (clear hSw; first | (go_simp; done) | (go_simp; with_reducible rfl))
            try go_frame
            refine wpAnyH_take (i := 14) (oi := _) (v := ?_) (by simp only [List.getElem?_toArray, List.getElem?_cons_succ, List.getElem?_cons_zero]; rfl) (by kernel_rfl) (by kernel_rfl) (by kernel_rfl) (by intro _ _ _ h; exact h) (Or.inl ⟨by rfl, fun W hSw => ?_⟩) hHeld ?_
            rotate_left 1
            · (clear hSw; first | (go_simp; done) | (go_simp; with_reducible rfl))
            try go_frame
            refine wpAnyH_take (i := 15) (oi := _) (v := ?_) (by simp only [List.getElem?_toArray, List.getElem?_cons_succ, List.getElem?_cons_zero]; rfl) (by kernel_rfl) (by kernel_rfl) (by kernel_rfl) (by intro _ _ _ h; exact h) (Or.inl ⟨by rfl, fun W hSw => ?_⟩) hHeld ?_
            rotate_left 1
            · (clear hSw; first | (go_simp; done) | (go_simp; with_reducible rfl))
            try go_frame
            refine wpAnyH_take (i := 16) (oi := _) (v := ?_) (by simp only [List.getElem?_toArray, List.getElem?_cons_succ, List.getElem?_cons_zero]; rfl) (by kernel_rfl) (by kernel_rfl) (by kernel_rfl) (by intro _ _ _ h; exact h) (Or.inl ⟨by rfl, fun W hSw => ?_⟩) hHeld ?_
            rotate_left 1
            · (clear hSw; first | (go_simp; done) | (go_simp; with_reducible rfl))
            try go_frame
            refine wpAnyH_done (by kernel_rfl) ?_ _
            clear hHeld HH
            go_wp2_with fail
            go_ret
            exact ⟨by rw [HS.out]; first | rfl | simp, HK4.out, HP4.out⟩
          · have h3a : (fk == (3 : Int)) = false := by simpa using h3
            have h3b : decide (fk = (3 : Int)) = false := by simpa using h3
            have HS2 : Hid (supK K c = false) := Lib.hid (by rw [HS.out, h4b, h3b]; rfl)
            have HH : Hid (w2.drew.cell? ⟨lb, 0, none⟩ = some (.pointer (some ⟨tb, 0, none⟩)) ∧ w2.drew.cell? ⟨tc, 1, none⟩ = some (.string sp)) := Lib.hid ⟨c0, x1⟩
            refine wp_region_held_drew (S := fun W => W.cell? ⟨lb, 0, none⟩ = some (.pointer (some ⟨tb, 0, none⟩)) ∧ W.cell? ⟨tc, 1, none⟩ = some (.string sp)) (by kernel_rfl) HH.out (fun hHeld => ?_)
            refine wpAnyH_take (i := 0) (oi := _) (v := ?_) (by simp only [List.getElem?_toArray, List.getElem?_cons_zero]; rfl) (by kernel_rfl) (by kernel_rfl) (by kernel_rfl) (by intro _ _ _ h; exact h) (Or.inl ⟨by rfl, fun W hSw => ?_⟩) hHeld ?_
            rotate_left 1
            · (clear hSw; first | (go_simp; done) | (go_simp; with_reducible rfl))
            try go_frame
            refine wpAnyH_take (i := 1) (oi := _) (v := ?_) (by simp only [List.getElem?_toArray, List.getElem?_cons_succ, List.getElem?_cons_zero]; rfl) (by kernel_rfl) (by kernel_rfl) (by kernel_rfl) (by intro _ _ _ h; exact h) (Or.inl ⟨by rfl, fun W hSw => ?_⟩) hHeld ?_
            rotate_left 1
            · (clear hSw; first | (go_simp; done) | (go_simp; with_reducible rfl))
            try go_frame
            refine wpAnyH_take (i := 2) (oi := _) (v := ?_) (by simp only [List.getElem?_toArray, List.getElem?_cons_succ, List.getElem?_cons_zero]; rfl) (by kernel_rfl) (by kernel_rfl) (by kernel_rfl) (by intro _ _ _ h; exact h) (Or.inl ⟨by rfl, fun W hSw => ?_⟩) hHeld ?_
            rotate_left 1
            · (clear hSw; first | (go_simp; done) | (go_simp; with_reducible rfl))
            try go_frame
            refine wpAnyH_take (i := 3) (oi := _) (v := ?_) (by simp only [List.getElem?_toArray, List.getElem?_cons_succ, List.getElem?_cons_zero]; rfl) (by kernel_rfl) (by kernel_rfl) (by kernel_rfl) (by intro _ _ _ h; exact h) (Or.inl ⟨by rfl, fun W hSw => ?_⟩) hHeld ?_
            rotate_left 1
            · (try dsimp only at hSw); first | (go_simp; done) | (go_simp; with_reducible rfl)
            try go_frame
            refine wpAnyH_take (i := 4) (oi := _) (v := ?_) (by simp only [List.getElem?_toArray, List.getElem?_cons_succ, List.getElem?_cons_zero]; rfl) (by kernel_rfl) (by kernel_rfl) (by kernel_rfl) (by intro _ _ _ h; exact h) (Or.inl ⟨by rfl, fun W hSw => ?_⟩) hHeld ?_
            rotate_left 1
            · (clear hSw; first | (go_simp; done) | (go_simp; with_reducible rfl))
            try go_frame
            refine wpAnyH_take (i := 5) (oi := _) (v := ?_) (by simp only [List.getElem?_toArray, List.getElem?_cons_succ, List.getElem?_cons_zero]; rfl) (by kernel_rfl) (by kernel_rfl) (by kernel_rfl) (by intro _ _ _ h; exact h) (Or.inl ⟨by rfl, fun W hSw => ?_⟩) hHeld ?_
            rotate_left 1
            · (try dsimp only at hSw); first | (go_simp; done) | (go_simp; with_reducible rfl)
            try go_frame
            refine wpAnyH_ready (rs := [6]) (by kernel_rfl) (by simp) ?_
            refine AllReadyH.cons (o := _) (by simp only [List.getElem?_toArray, List.getElem?_cons_succ, List.getElem?_cons_zero]; rfl) (fun K hK => ?_) AllReadyH.nil
            clear hHeld
            go_simp
            refine hkt.mono ?_
            rintro e w4 ⟨rfl, hb4⟩
            have HK4 := Lib.hid (HK3.out.below hb4)
            have HP4 := Lib.hid (HP3.out.trans (S.Kpt.of_below (S := [fb]) hb4) (fun y hy => .inl hy))
            have HH : Hid (w4.cell? ⟨lb, 0, none⟩ = some (.pointer (some ⟨tb, 0, none⟩)) ∧ w4.cell? ⟨tc, 1, none⟩ = some (.string sp)) := Lib.hid ⟨HK4.out.cells.2.2.2.1, (hb4.cell tl).trans x1⟩
            clear hb4
            refine hK.out _ _ HH.out (fun hHeld => ?_)
            clear hK K
            try go_frame
            refine wpAnyH_take (i := 7) (oi := _) (v := ?_) (by simp only [List.getElem?_toArray, List.getElem?_cons_succ, List.getElem?_cons_zero]; rfl) (by kernel_rfl) (by kernel_rfl) (by kernel_rfl) (by intro _ _ _ h; exact h) (Or.inl ⟨by rfl, fun W hSw => ?_⟩) hHeld ?_
            rotate_left 1
            · (clear hSw; first | (go_simp; done) | (go_simp; with_reducible rfl))
            try go_frame
            refine wpAnyH_take (i := 8) (oi := _) (v := ?_) (by simp only [List.getElem?_toArray, List.getElem?_cons_succ, List.getElem?_cons_zero]; rfl) (by kernel_rfl) (by kernel_rfl) (by kernel_rfl) (by intro _ _ _ h; exact h) (Or.inl ⟨by rfl, fun W hSw => ?_⟩) hHeld ?_
            rotate_left 1
            · (clear hSw; first | (go_simp; done) | (go_simp; with_reducible rfl))
            try go_frame
            refine wpAnyH_take (i := 9) (oi := _) (v := ?_) (by simp only [List.getElem?_toArray, List.getElem?_cons_succ, List.getElem?_cons_zero]; rfl) (by kernel_rfl) (by kernel_rfl) (by kernel_rfl) (by intro _ _ _ h; exact h) (Or.inl ⟨by rfl, fun W hSw => ?_⟩) hHeld ?_
            rotate_left 1
            · (clear hSw; first | (go_simp; done) | (go_simp; with_reducible rfl))
            try go_frame
            refine wpAnyH_take (i := 10) (oi := _) (v := ?_) (by simp only [List.getElem?_toArray, List.getElem?_cons_succ, List.getElem?_cons_zero]; rfl) (by kernel_rfl) (by kernel_rfl) (by kernel_rfl) (by intro _ _ _ h; exact h) (Or.inl ⟨by rfl, fun W hSw => ?_⟩) hHeld ?_
            rotate_left 1
            · (clear hSw; first | (go_simp; done) | (go_simp; with_reducible rfl))
            try go_frame
            refine wpAnyH_take (i := 11) (oi := _) (v := ?_) (by simp only [List.getElem?_toArray, List.getElem?_cons_succ, List.getElem?_cons_zero]; rfl) (by kernel_rfl) (by kernel_rfl) (by kernel_rfl) (by intro _ _ _ h; exact h) (Or.inl ⟨by rfl, fun W hSw => ?_⟩) hHeld ?_
            rotate_left 1
            · (clear hSw; first | (go_simp; done) | (go_simp; with_reducible rfl))
            try go_frame
            refine wpAnyH_take (i := 12) (oi := _) (v := ?_) (by simp only [List.getElem?_toArray, List.getElem?_cons_succ, List.getElem?_cons_zero]; rfl) (by kernel_rfl) (by kernel_rfl) (by kernel_rfl) (by intro _ _ _ h; exact h) (Or.inl ⟨by rfl, fun W hSw => ?_⟩) hHeld ?_
            rotate_left 1
            · (clear hSw; first | (go_simp; done) | (go_simp; with_reducible rfl))
            try go_frame
            refine wpAnyH_take (i := 13) (oi := _) (v := ?_) (by simp only [List.getElem?_toArray, List.getElem?_cons_succ, List.getElem?_cons_zero]; rfl) (by kernel_rfl) (by kernel_rfl) (by kernel_rfl) (by intro _ _ _ h; exact h) (Or.inl ⟨by rfl, fun W hSw => ?_⟩) hHeld ?_
            rotate_left 1
            · (clear hSw; first | (go_simp; done) | (go_simp; with_reducible rfl))
            try go_frame
            refine wpAnyH_take (i := 14) (oi := _) (v := ?_) (by simp only [List.getElem?_toArray, List.getElem?_cons_succ, List.getElem?_cons_zero]; rfl) (by kernel_rfl) (by kernel_rfl) (by kernel_rfl) (by intro _ _ _ h; exact h) (Or.inl ⟨by rfl, fun W hSw => ?_⟩) hHeld ?_
            rotate_left 1
            · (clear hSw; first | (go_simp; done) | (go_simp; with_reducible rfl))
            try go_frame
            refine wpAnyH_take (i := 15) (oi := _) (v := ?_) (by simp only [List.getElem?_toArray, List.getElem?_cons_succ, List.getElem?_cons_zero]; rfl) (by kernel_rfl) (by kernel_rfl) (by kernel_rfl) (by intro _ _ _ h; exact h) (Or.inl ⟨by rfl, fun W hSw => ?_⟩) hHeld ?_
            rotate_left 1
            · (clear hSw; first | (go_simp; done) | (go_simp; with_reducible rfl))
            try go_frame
            refine wpAnyH_take (i := 16) (oi := _) (v := ?_) (by simp only [List.getElem?_toArray, List.getElem?_cons_succ, List.getElem?_cons_zero]; rfl) (by kernel_rfl) (by kernel_rfl) (by kernel_rfl) (by intro _ _ _ h; exact h) (Or.inl ⟨by rfl, fun W hSw => ?_⟩) hHeld ?_
            rotate_left 1
            · (clear hSw; first | (go_simp; done) | (go_simp; with_reducible rfl))
            try go_frame
            refine wpAnyH_done (by kernel_rfl) ?_ _
            clear hHeld HH
            go_wp2_with fail
            go_ret
            exact ⟨by rw [HS2.out]; first | rfl | simp, HK4.out, HP4.out⟩
    · have hot : (sp.toList == [79, 98, 106, 101, 99, 116]) = false := obj_ne ho
      have HS : Hid (supK K c = true) := Lib.hid (by rw [HS0.out]; simp [ho])
      clear ho HS0
      go_wp2_with fail
      go_ret
      exact ⟨by rw [HS.out]; rfl, HK1.out, S.Kpt.of_below HB1.out⟩
  · have hk' : (kd == (4 : Int)) = false := by simpa using hk
    have hk2 : decide (kd = (4 : Int)) = false := by simpa using hk
    have HS : Hid (supK K c = (!knownT (K.map skOf) sp || (decide (kindT (K.map skOf) sp = 4) || decide (kindT (K.map skOf) sp = 3)))) := Lib.hid (by rw [HS0.out, hk2]; simp)
    clear HS0
    go_wp2_with fail
    refine (face_h N lb fb tb mt vs K sp w1 HK1.out hsz HA.out HASK.out).mono ?_
    rintro e w2 ⟨⟨fk, fp, fn, fc⟩, rfl, hfv, hk2_, hp2⟩
    have hfk : fk = kindT (K.map skOf) sp := hfv.1.trans (kind_cls K sp)
    have HK2 := Lib.hid hk2_
    have HP2 : Hid (S.Kpt [fb] w w2) := Lib.hid ((S.Kpt.of_below (S := [fb]) HB1.out).trans hp2 (fun y hy => .inl hy))
    rw [← hfk] at HS
    have hX2 := hp2.block HX1.out (by simpa using HNE.out)
    dsimp only [fmk]
    have hfs := field_kind fk fp fn fc w2
    clear hfv hk2_ hp2 hfk tl x0 x1 x2 x3 x4 x5
    go_upto_region 4 with fail
    clear hfs
    have hbd : Below w2.heap.size w2 w2.drew := (Below.refl _ _).drew
    have HK3 := Lib.hid (HK2.out.below hbd)
    have HP3 := Lib.hid (HP2.out.trans (S.Kpt.of_below (S := [fb]) hbd) (fun y hy => .inl hy))
    obtain ⟨-, -, -, c0, c1⟩ := HK3.out.cells
    obtain ⟨tl, x0, x1, x2, x3, x4, x5⟩ := cells6 (W := w2.drew) hX2
    have hkt := known_t _ tb mt vs K sp w2.drew HK3.out.1 hsz
    obtain ⟨r, hr⟩ : ∃ y, knownT (K.map skOf) sp = y := ⟨_, rfl⟩
    rw [hr] at hkt HS
    clear hr hbd hX2 HK2 HP2
    cases r with
    | false =>
      have HH : Hid (w2.drew.cell? ⟨lb, 0, none⟩ = some (.pointer (some ⟨tb, 0, none⟩)) ∧ w2.drew.cell? ⟨tc, 1, none⟩ = some (.string sp)) := Lib.hid ⟨c0, x1⟩
      refine wp_region_held_drew (S := fun W => W.cell? ⟨lb, 0, none⟩ = some (.pointer (some ⟨tb, 0, none⟩)) ∧ W.cell? ⟨tc, 1, none⟩ = some (.string sp)) (by kernel_rfl) HH.out (fun hHeld => ?_)
      refine wpAnyH_take (i := 0) (oi := _) (v := ?_) (by simp only [List.getElem?_toArray, List.getElem?_cons_zero]; rfl) (by kernel_rfl) (by kernel_rfl) (by kernel_rfl) (by intro _ _ _ h; exact h) (Or.inl ⟨by rfl, fun W hSw => ?_⟩) hHeld ?_
      rotate_left 1
      · (clear hSw; first | (go_simp; done) | (go_simp; with_reducible rfl))
      try go_frame
      refine wpAnyH_take (i := 1) (oi := _) (v := ?_) (by simp only [List.getElem?_toArray, List.getElem?_cons_succ, List.getElem?_cons_zero]; rfl) (by kernel_rfl) (by kernel_rfl) (by kernel_rfl) (by intro _ _ _ h; exact h) (Or.inl ⟨by rfl, fun W hSw => ?_⟩) hHeld ?_
      rotate_left 1
      · (clear hSw; first | (go_simp; done) | (go_simp; with_reducible rfl))
      try go_frame
      refine wpAnyH_take (i := 2) (oi := _) (v := ?_) (by simp only [List.getElem?_toArray, List.getElem?_cons_succ, List.getElem?_cons_zero]; rfl) (by kernel_rfl) (by kernel_rfl) (by kernel_rfl) (by intro _ _ _ h; exact h) (Or.inl ⟨by rfl, fun W hSw => ?_⟩) hHeld ?_
      rotate_left 1
      · (clear hSw; first | (go_simp; done) | (go_simp; with_reducible rfl))
      try go_frame
      refine wpAnyH_take (i := 3) (oi := _) (v := ?_) (by simp only [List.getElem?_toArray, List.getElem?_cons_succ, List.getElem?_cons_zero]; rfl) (by kernel_rfl) (by kernel_rfl) (by kernel_rfl) (by intro _ _ _ h; exact h) (Or.inl ⟨by rfl, fun W hSw => ?_⟩) hHeld ?_
      rotate_left 1
      · (try dsimp only at hSw); first | (go_simp; done) | (go_simp; with_reducible rfl)
      try go_frame
      refine wpAnyH_take (i := 4) (oi := _) (v := ?_) (by simp only [List.getElem?_toArray, List.getElem?_cons_succ, List.getElem?_cons_zero]; rfl) (by kernel_rfl) (by kernel_rfl) (by kernel_rfl) (by intro _ _ _ h; exact h) (Or.inl ⟨by rfl, fun W hSw => ?_⟩) hHeld ?_
      rotate_left 1
      · (clear hSw; first | (go_simp; done) | (go_simp; with_reducible rfl))
      try go_frame
      refine wpAnyH_take (i := 5) (oi := _) (v := ?_) (by simp only [List.getElem?_toArray, List.getElem?_cons_succ, List.getElem?_cons_zero]; rfl) (by kernel_rfl) (by kernel_rfl) (by kernel_rfl) (by intro _ _ _ h; exact h) (Or.inl ⟨by rfl, fun W hSw => ?_⟩) hHeld ?_
      rotate_left 1
      · (try dsimp only at hSw); first | (go_simp; done) | (go_simp; with_reducible rfl)
      try go_frame
      refine wpAnyH_ready (rs := [6]) (by kernel_rfl) (by simp) ?_
      refine AllReadyH.cons (o := _) (by simp only [List.getElem?_toArray, List.getElem?_cons_succ, List.getElem?_cons_zero]; rfl) (fun K hK => ?_) AllReadyH.nil
      clear hHeld
      go_simp
      refine hkt.mono ?_
      rintro e w4 ⟨rfl, hb4⟩
      have HK4 := Lib.hid (HK3.out.below hb4)
      have HP4 := Lib.hid (HP3.out.trans (S.Kpt.of_below (S := [fb]) hb4) (fun y hy => .inl hy))
      have HH : Hid (w4.cell? ⟨lb, 0, none⟩ = some (.pointer (some ⟨tb, 0, none⟩)) ∧ w4.cell? ⟨tc, 1, none⟩ = some (.string sp)) := Lib.hid ⟨HK4.out.cells.2.2.2.1, (hb4.cell tl).trans x1⟩
      clear hb4
      refine hK.out _ _ HH.out (fun hHeld => ?_)
      clear hK K
      try go_frame
      refine wpAnyH_take (i := 7) (oi := _) (v := ?_) (by simp only [List.getElem?_toArray, List.getElem?_cons_succ, List.getElem?_cons_zero]; rfl) (by kernel_rfl) (by kernel_rfl) (by kernel_rfl) (by intro _ _ _ h; exact h) (Or.inl ⟨by rfl, fun W hSw => ?_⟩) hHeld ?_
      rotate_left 1
      · (clear hSw; first | (go_simp; done) | (go_simp; with_reducible rfl))
      try go_frame
      refine wpAnyH_take (i := 8) (oi := _) (v := ?_) (by simp only [List.getElem?_toArray, List.getElem?_cons_succ, List.getElem?_cons_zero]; rfl) (by kernel_rfl) (by kernel_rfl) (by kernel_rfl) (by intro _ _ _ h; exact h) (Or.inl ⟨by rfl, fun W hSw => ?_⟩) hHeld ?_
      rotate_left 1
      · (clear hSw; first | (go_simp; done) | (go_simp; with_reducible rfl))
      try go_frame
      refine wpAnyH_take (i := 9) (oi := _) (v := undef) (by simp only [List.getElem?_toArray, List.getElem?_cons_succ, List.getElem?_cons_zero]; rfl) (by kernel_rfl) (by kernel_rfl) (by kernel_rfl) (by intro _ _ _ h; exact h) (Or.inr ⟨by rfl, rfl⟩) hHeld ?_
      try go_frame
      refine wpAnyH_take (i := 10) (oi := _) (v := undef) (by simp only [List.getElem?_toArray, List.getElem?_cons_succ, List.getElem?_cons_zero]; rfl) (by kernel_rfl) (by kernel_rfl) (by kernel_rfl) (by intro _ _ _ h; exact h) (Or.inr ⟨by rfl, rfl⟩) hHeld ?_
      try go_frame
      refine wpAnyH_take (i := 11) (oi := _) (v := ?_) (by simp only [List.getElem?_toArray, List.getElem?_cons_succ, List.getElem?_cons_zero]; rfl) (by kernel_rfl) (by kernel_rfl) (by kernel_rfl) (by intro _ _ _ h; exact h) (Or.inl ⟨by rfl, fun W hSw => ?_⟩) hHeld ?_
      rotate_left 1
      · (clear hSw; first | (go_simp; done) | (go_simp; with_reducible rfl))
      try go_frame
      refine wpAnyH_take (i := 12) (oi := _) (v := ?_) (by simp only [List.getElem?_toArray, List.getElem?_cons_succ, List.getElem?_cons_zero]; rfl) (by kernel_rfl) (by kernel_rfl) (by kernel_rfl) (by intro _ _ _ h; exact h) (Or.inl ⟨by rfl, fun W hSw => ?_⟩) hHeld ?_
      rotate_left 1
      · (clear hSw; first | (go_simp; done) | (go_simp; with_reducible rfl))
      try go_frame
      refine wpAnyH_take (i := 13) (oi := _) (v := undef) (by simp only [List.getElem?_toArray, List.getElem?_cons_succ, List.getElem?_cons_zero]; rfl) (by kernel_rfl) (by kernel_rfl) (by kernel_rfl) (by intro _ _ _ h; exact h) (Or.inr ⟨by rfl, rfl⟩) hHeld ?_
      try go_frame
      refine wpAnyH_take (i := 14) (oi := _) (v := undef) (by simp only [List.getElem?_toArray, List.getElem?_cons_succ, List.getElem?_cons_zero]; rfl) (by kernel_rfl) (by kernel_rfl) (by kernel_rfl) (by intro _ _ _ h; exact h) (Or.inr ⟨by rfl, rfl⟩) hHeld ?_
      try go_frame
      refine wpAnyH_take (i := 15) (oi := _) (v := ?_) (by simp only [List.getElem?_toArray, List.getElem?_cons_succ, List.getElem?_cons_zero]; rfl) (by kernel_rfl) (by kernel_rfl) (by kernel_rfl) (by intro _ _ _ h; exact h) (Or.inl ⟨by rfl, fun W hSw => ?_⟩) hHeld ?_
      rotate_left 1
      · (clear hSw; first | (go_simp; done) | (go_simp; with_reducible rfl))
      try go_frame
      refine wpAnyH_take (i := 16) (oi := _) (v := ?_) (by simp only [List.getElem?_toArray, List.getElem?_cons_succ, List.getElem?_cons_zero]; rfl) (by kernel_rfl) (by kernel_rfl) (by kernel_rfl) (by intro _ _ _ h; exact h) (Or.inl ⟨by rfl, fun W hSw => ?_⟩) hHeld ?_
      rotate_left 1
      · (clear hSw; first | (go_simp; done) | (go_simp; with_reducible rfl))
      try go_frame
      refine wpAnyH_done (by kernel_rfl) ?_ _
      clear hHeld HH
      go_wp2_with fail
      go_ret
      exact ⟨by rw [HS.out]; first | rfl | simp, HK4.out, HP4.out⟩
    | true =>
      by_cases h4 : fk = 4
      · subst h4
        have HH : Hid (w2.drew.cell? ⟨lb, 0, none⟩ = some (.pointer (some ⟨tb, 0, none⟩)) ∧ w2.drew.cell? ⟨tc, 1, none⟩ = some (.string sp)) := Lib.hid ⟨c0, x1⟩
        refine wp_region_held_drew (S := fun W => W.cell? ⟨lb, 0, none⟩ = some (.pointer (some ⟨tb, 0, none⟩)) ∧ W.cell? ⟨tc, 1, none⟩ = some (.string sp)) (by kernel_rfl) HH.out (fun hHeld => ?_)
        refine wpAnyH_take (i := 0) (oi := _) (v := ?_) (by simp only [List.getElem?_toArray, List.getElem?_cons_zero]; rfl) (by kernel_rfl) (by kernel_rfl) (by kernel_rfl) (by intro _ _ _ h; exact h) (Or.inl ⟨by rfl, fun W hSw => ?_⟩) hHeld ?_
        rotate_left 1
        · (clear hSw; first | (go_simp; done) | (go_simp; with_reducible rfl))
        try go_frame
        refine wpAnyH_take (i := 1) (oi := _) (v := ?_) (by simp only [List.getElem?_toArray, List.getElem?_cons_succ, List.getElem?_cons_zero]; rfl) (by kernel_rfl) (by kernel_rfl) (by kernel_rfl) (by intro _ _ _ h; exact h) (Or.inl ⟨by rfl, fun W hSw => ?_⟩) hHeld ?_
        rotate_left 1
        · (clear hSw; first | (go_simp; done) | (go_simp; with_reducible rfl))
        try go_frame
        refine wpAnyH_take (i := 2) (oi := _) (v := ?_) (by simp only [List.getElem?_toArray, List.getElem?_cons_succ, List.getElem?_cons_zero]; rfl) (by kernel_rfl) (by kernel_rfl) (by kernel_rfl) (by intro _ _ _ h; exact h) (Or.inl ⟨by rfl, fun W hSw => ?_⟩) hHeld ?_
        rotate_left 1
        · (clear hSw; first | (go_simp; done) | (go_simp; with_reducible rfl))
        try go_frame
        refine wpAnyH_take (i := 3) (oi := _) (v := ?_) (by simp only [List.getElem?_toArray, List.getElem?_cons_succ, List.getElem?_cons_zero]; rfl) (by kernel_rfl) (by kernel_rfl) (by kernel_rfl) (by intro _ _ _ h; exact h) (Or.inl ⟨by rfl, fun W hSw => ?_⟩) hHeld ?_
        rotate_left 1
        · (try dsimp only at hSw); first | (go_simp; done) | (go_simp; with_reducible rfl)
        try go_frame
        refine wpAnyH_take (i := 4) (oi := _) (v := ?_) (by simp only [List.getElem?_toArray, List.getElem?_cons_succ, List.getElem?_cons_zero]; rfl) (by kernel_rfl) (by kernel_rfl) (by kernel_rfl) (by intro _ _ _ h; exact h) (Or.inl ⟨by rfl, fun W hSw => ?_⟩) hHeld ?_
        rotate_left 1
        · (clear hSw; first | (go_simp; done) | (go_simp; with_reducible rfl))
        try go_frame
        refine wpAnyH_take (i := 5) (oi := _) (v := ?_) (by simp only [List.getElem?_toArray, List.getElem?_cons_succ, List.getElem?_cons_zero]; rfl) (by kernel_rfl) (by kernel_rfl) (by kernel_rfl) (by intro _ _ _ h; exact h) (Or.inl ⟨by rfl, fun W hSw => ?_⟩) hHeld ?_
        rotate_left 1
        · (try dsimp only at hSw); first | (go_simp; done) | (go_simp; with_reducible rfl)
        try go_frame
        refine wpAnyH_ready (rs := [6]) (by kernel_rfl) (by simp) ?_
        refine AllReadyH.cons (o := _) (by simp only [List.getElem?_toArray, List.getElem?_cons_succ, List.getElem?_cons_zero]; rfl) (fun K hK => ?_) AllReadyH.nil
        clear hHeld
        go_simp
        refine hkt.mono ?_
        rintro e w4 ⟨rfl, hb4⟩
        have HK4 := Lib.hid (HK3.out.below hb4)
        have HP4 := Lib.hid (HP3.out.trans (S.Kpt.of_below (S := [fb]) hb4) (fun y hy => .inl hy))
        have HH : Hid (w4.cell? ⟨lb, 0, none⟩ = some (.pointer (some ⟨tb, 0, none⟩)) ∧ w4.cell? ⟨tc, 1, none⟩ = some (.string sp)) := Lib.hid ⟨HK4.out.cells.2.2.2.1, (hb4.cell tl).trans x1⟩
        clear hb4
        refine hK.out _ _ HH.out (fun hHeld => ?_)
        clear hK K
        try go_frame
        refine wpAnyH_take (i := 7) (oi := _) (v := ?_) (by simp only [List.getElem?_toArray, List.getElem?_cons_succ, List.getElem?_cons_zero]; rfl) (by kernel_rfl) (by kernel_rfl) (by kernel_rfl) (by intro _ _ _ h; exact h) (Or.inl ⟨by rfl, fun W hSw => ?_⟩) hHeld ?_
        rotate_left 1
        · (clear hSw; first | (go_simp; done) | (go_simp; with_reducible rfl))
        try go_frame
        refine wpAnyH_take (i := 8) (oi := _) (v := ?_) (by simp only [List.getElem?_toArray, List.getElem?_cons_succ, List.getElem?_cons_zero]; rfl) (by kernel_rfl) (by kernel_rfl) (by kernel_rfl) (by intro _ _ _ h; exact h) (Or.inl ⟨by rfl, fun W hSw => ?_⟩) hHeld ?_
        rotate_left 1
        · (clear hSw; first | (go_simp; done) | (go_simp; with_reducible rfl))
        try go_frame
        refine wpAnyH_take (i := 9) (oi := _) (v := ?_) (by simp only [List.getElem?_toArray, List.getElem?_cons_succ, List.getElem?_cons_zero]; rfl) (by kernel_rfl) (by kernel_rfl) (by kernel_rfl) (by intro _ _ _ h; exact h) (Or.inl ⟨by rfl, fun W hSw => ?_⟩) hHeld ?_
        rotate_left 1
        · (clear hSw; first | (go_simp; done) | (go_simp; with_reducible rfl))
        try go_frame
        refine wpAnyH_take (i := 10) (oi := _) (v := ?_) (by simp only [List.getElem?_toArray, List.getElem?_cons_succ, List.getElem?_cons_zero]; rfl) (by kernel_rfl) (by kernel_rfl) (by kernel_rfl) (by intro _ _ _ h; exact h) (Or.inl ⟨by rfl, fun W hSw => ?_⟩) hHeld ?_
        rotate_left 1
        · (clear hSw; first | (go_simp; done) | (go_simp; with_reducible rfl))
        try go_frame
        refine wpAnyH_take (i := 11) (oi := _) (v := ?_) (by simp only [List.getElem?_toArray, List.getElem?_cons_succ, List.getElem?_cons_zero]; rfl) (by kernel_rfl) (by kernel_rfl) (by kernel_rfl) (by intro _ _ _ h; exact h) (Or.inl ⟨by rfl, fun W hSw => ?_⟩) hHeld ?_
        rotate_left 1
        · (clear hSw; first | (go_simp; done) | (go_simp; with_reducible rfl))
        try go_frame
        refine wpAnyH_take (i := 12) (oi := _) (v := ?_) (by simp only [List.getElem?_toArray, List.getElem?_cons_succ, List.getElem?_cons_zero]; rfl) (by kernel_rfl) (by kernel_rfl) (by kernel_rfl) (by intro _ _ _ h; exact h) (Or.inl ⟨by rfl, fun W hSw => ?_⟩) hHeld ?_
        rotate_left 1
        · (clear hSw; first | (go_simp; done) | (go_simp; with_reducible rfl))
        try go_frame
        refine wpAnyH_take (i := 13) (oi := _) (v := undef) (by simp only [List.getElem?_toArray, List.getElem?_cons_succ, List.getElem?_cons_zero]; rfl) (by kernel_rfl) (by kernel_rfl) (by kernel_rfl) (by intro _ _ _ h; exact h) (Or.inr ⟨by rfl, rfl⟩) hHeld ?_
        try go_frame
        refine wpAnyH_take (i := 14) (oi := _) (v := undef) (by simp only [List.getElem?_toArray, List.getElem?_cons_succ, List.getElem?_cons_zero]; rfl) (by kernel_rfl) (by kernel_rfl) (by kernel_rfl) (by intro _ _ _ h; exact h) (Or.inr ⟨by rfl, rfl⟩) hHeld ?_
        try go_frame
        refine wpAnyH_take (i := 15) (oi := _) (v := ?_) (by simp only [List.getElem?_toArray, List.getElem?_cons_succ, List.getElem?_cons_zero]; rfl) (by kernel_rfl) (by kernel_rfl) (by kernel_rfl) (by intro _ _ _ h; exact h) (Or.inl ⟨by rfl, fun W hSw => ?_⟩) hHeld ?_
        rotate_left 1
        · (clear hSw; first | (go_simp; done) | (go_simp; with_reducible rfl))
        try go_frame
        refine wpAnyH_take (i := 16) (oi := _) (v := ?_) (by simp only [List.getElem?_toArray, List.getElem?_cons_succ, List.getElem?_cons_zero]; rfl) (by kernel_rfl) (by kernel_rfl) (by kernel_rfl) (by intro _ _ _ h; exact h) (Or.inl ⟨by rfl, fun W hSw => ?_⟩) hHeld ?_
        rotate_left 1
        · (clear hSw; first | (go_simp; done) | (go_simp; with_reducible rfl))
        try go_frame
        refine wpAnyH_done (by kernel_rfl) ?_ _
        clear hHeld HH
        go_wp2_with fail
        go_ret
        exact ⟨by rw [HS.out]; first | rfl | simp, HK4.out, HP4.out⟩
      · have h4a : (fk == (4 : Int)) = false := by simpa using h4
        have h4b : decide (fk = (4 : Int)) = false := by simpa using h4
        by_cases h3 : fk = 3
        · subst h3
          have HH : Hid (w2.drew.cell? ⟨lb, 0, none⟩ = some (.pointer (some ⟨tb, 0, none⟩)) ∧ w2.drew.cell? ⟨tc, 1, none⟩ = some (.string sp)) := Lib.hid ⟨c0, x1⟩
          refine wp_region_held_drew (S := fun W => W.cell? ⟨lb, 0, none⟩ = some (.pointer (some ⟨tb, 0, none⟩)) ∧ W.cell? ⟨tc, 1, none⟩ = some (.string sp)) (by kernel_rfl) HH.out (fun hHeld => ?_)
          refine wpAnyH_take (i := 0) (oi := _) (v := ?_) (by simp only [List.getElem?_toArray, List.getElem?_cons_zero]; rfl) (by kernel_rfl) (by kernel_rfl) (by kernel_rfl) (by intro _ _ _ h; exact h) (Or.inl ⟨by rfl, fun W hSw => ?_⟩) hHeld ?_
          rotate_left 1
          · (clear hSw; first | (go_simp; done) | (go_simp; with_reducible rfl))
          try go_frame
          refine wpAnyH_take (i := 1) (oi := _) (v := ?_) (by simp only [List.getElem?_toArray, List.getElem?_cons_succ, List.getElem?_cons_zero]; rfl) (by kernel_rfl) (by kernel_rfl) (by kernel_rfl) (by intro _ _ _ h; exact h) (Or.inl ⟨by rfl, fun W hSw => ?_⟩) hHeld ?_
          rotate_left 1
          · (clear hSw; first | (go_simp; done) | (go_simp; with_reducible rfl))
          try go_frame
          refine wpAnyH_take (i := 2) (oi := _) (v := ?_) (by simp only [List.getElem?_toArray, List.getElem?_cons_succ, List.getElem?_cons_zero]; rfl) (by kernel_rfl) (by kernel_rfl) (by kernel_rfl) (by intro _ _ _ h; exact h) (Or.inl ⟨by rfl, fun W hSw => ?_⟩) hHeld ?_
          rotate_left 1
          · (clear hSw; first | (go_simp; done) | (go_simp; with_reducible rfl))
          try go_frame
          refine wpAnyH_take (i := 3) (oi := _) (v := ?_) (by simp only [List.getElem?_toArray, List.getElem?_cons_succ, List.getElem?_cons_zero]; rfl) (by kernel_rfl) (by kernel_rfl) (by kernel_rfl) (by intro _ _ _ h; exact h) (Or.inl ⟨by rfl, fun W hSw => ?_⟩) hHeld ?_
          rotate_left 1
          · (try dsimp only at hSw); first | (go_simp; done) | (go_simp; with_reducible rfl)
          try go_frame
          refine wpAnyH_take (i := 4) (oi := _) (v := ?_) (by simp only [List.getElem?_toArray, List.getElem?_cons_succ, List.getElem?_cons_zero]; rfl) (by kernel_rfl) (by kernel_rfl) (by kernel_rfl) (by intro _ _ _ h; exact h) (Or.inl ⟨by rfl, fun W hSw => ?_⟩) hHeld ?_
          rotate_left 1
          · (clear hSw; first | (go_simp; done) | (go_simp; with_reducible rfl))
          try go_frame
          refine wpAnyH_take (i := 5) (oi := _) (v := ?_) (by simp only [List.getElem?_toArray, List.getElem?_cons_succ, List.getElem?_cons_zero]; rfl) (by kernel_rfl) (by kernel_rfl) (by kernel_rfl) (by intro _ _ _ h; exact h) (Or.inl ⟨by rfl, fun W hSw => ?_⟩) hHeld ?_
          rotate_left 1
          · (try dsimp only at hSw); first | (go_simp; done) | (go_simp; with_reducible rfl)
          try go_frame
          refine wpAnyH_ready (rs := [6]) (by kernel_rfl) (by simp) ?_
          refine AllReadyH.cons (o := _) (by simp only [List.getElem?_toArray, List.getElem?_cons_succ, List.getElem?_cons_zero]; rfl) (fun K hK => ?_) AllReadyH.nil
          clear hHeld
          go_simp
          refine hkt.mono ?_
          rintro e w4 ⟨rfl, hb4⟩
          have HK4 := Lib.hid (HK3.out.below hb4)
          have HP4 := Lib.hid (HP3.out.trans (S.Kpt.of_below (S := [fb]) hb4) (fun y hy => .inl hy))
          have HH : Hid (w4.cell? ⟨lb, 0, none⟩ = some (.pointer (some ⟨tb, 0, none⟩)) ∧ w4.cell? ⟨tc, 1, none⟩ = some (.string sp)) := Lib.hid ⟨HK4.out.cells.2.2.2.1, (hb4.cell tl).trans x1⟩
          clear hb4
          refine hK.out _ _ HH.out (fun hHeld => ?_)
          clear hK K
          try go_frame
          refine wpAnyH_take (i := 7) (oi := _) (v := ?_) (by simp only [List.getElem?_toArray, List.getElem?_cons_succ, List.getElem?_cons_zero]; rfl) (by kernel_rfl) (by kernel_rfl) (by kernel_rfl) (by intro _ _ _ h; exact h) (Or.inl ⟨by rfl, fun W hSw => ?_⟩) hHeld ?_
          rotate_left 1
          · (clear hSw; first | (go_simp; done) | (go_simp; with_reducible rfl))
          try go_frame
          refine wpAnyH_take (i := 8) (oi := _) (v := ?_) (by simp only [List.getElem?_toArray, List.getElem?_cons_succ, List.getElem?_cons_zero]; rfl) (by kernel_rfl) (by kernel_rfl) (by kernel_rfl) (by intro _ _ _ h; exact h) (Or.inl ⟨by rfl, fun W hSw => ?_⟩) hHeld ?_
          rotate_left 1
          · (clear hSw; first | (go_simp; done) | (go_simp; with_reducible rfl))
          try go_frame
          refine wpAnyH_take (i := 9) (oi := _) (v := ?_) (by simp only [List.getElem?_toArray, List.getElem?_cons_succ, List.getElem?_cons_zero]; rfl) (by kernel_rfl) (by kernel_rfl) (by kernel_rfl) (by intro _ _ _ h; exact h) (Or.inl ⟨by rfl, fun W hSw => ?_⟩) hHeld ?_
          rotate_left 1
          · (clear hSw; first | (go_simp; done) | (go_simp; with_reducible rfl))
          try go_frame
          refine wpAnyH_take (i := 10) (oi := _) (v := ?_) (by simp only [List.getElem?_toArray, List.getElem?_cons_succ, List.getElem?_cons_zero]; rfl) (by kernel_rfl) (by kernel_rfl) (by kernel_rfl) (by intro _ _ _ h; exact h) (Or.inl ⟨by rfl, fun W hSw => ?_⟩) hHeld ?_
          rotate_left 1
          · (clear hSw; first | (go_simp; done) | (go_simp; with_reducible rfl))
          try go_frame
          refine wpAnyH_take (i := 11) (oi := _) (v := ?_) (by simp only [List.getElem?_toArray, List.getElem?_cons_succ, List.getElem?_cons_zero]; rfl) (by kernel_rfl) (by kernel_rfl) (by kernel_rfl) (by intro _ _ _ h; exact h) (Or.inl ⟨by rfl, fun W hSw => ?_⟩) hHeld ?_
          rotate_left 1
          · (clear hSw; first | (go_simp; done) | (go_simp; with_reducible rfl))
          try go_frame
          refine wpAnyH_take (i := 12) (oi := _) (v := ?_) (by simp only [List.getElem?_toArray, List.getElem?_cons_succ, List.getElem?_cons_zero]; rfl) (by kernel_rfl) (by kernel_rfl) (by kernel_rfl) (by intro _ _ _ h; exact h) (Or.inl ⟨by rfl, fun W hSw => ?_⟩) hHeld ?_
          rotate_left 1
          · (clear hSw; first | (go_simp; done) | (go_simp; with_reducible rfl))
          try go_frame
          refine wpAnyH_take (i := 13) (oi := _) (v := ?_) (by simp only [List.getElem?_toArray, List.getElem?_cons_succ, List.getElem?_cons_zero]; rfl) (by kernel_rfl) (by kernel_rfl) (by kernel_rfl) (by intro _ _ _ h; exact h) (Or.inl ⟨by rfl, fun W hSw => ?_⟩) hHeld ?_
          rotate_left 1
          · (clear hSw; first | (go_simp; done) | (go_simp; with_reducible rfl))
          try go_frame
          refine wpAnyH_take (i := 14) (oi := _) (v := ?_) (by simp only [List.getElem?_toArray, List.getElem?_cons_succ, List.getElem?_cons_zero]; rfl) (by kernel_rfl) (by kernel_rfl) (by kernel_rfl) (by intro _ _ _ h; exact h) (Or.inl ⟨by rfl, fun W hSw => ?_⟩) hHeld ?_
          rotate_left 1
          · (clear hSw; first | (go_simp; done) | (go_simp; with_reducible rfl))
          try go_frame
          refine wpAnyH_take (i := 15) (oi := _) (v := ?_) (by simp only [List.getElem?_toArray, List.getElem?_cons_succ, List.getElem?_cons_zero]; rfl) (by kernel_rfl) (by kernel_rfl) (by kernel_rfl) (by intro _ _ _ h; exact h) (Or.inl ⟨by rfl, fun W hSw => ?_⟩) hHeld ?_
          rotate_left 1
          · (clear hSw; first | (go_simp; done) | (go_simp; with_reducible rfl))
          try go_frame
          refine wpAnyH_take (i := 16) (oi := _) (v := ?_) (by simp only [List.getElem?_toArray, List.getElem?_cons_succ, List.getElem?_cons_zero]; rfl) (by kernel_rfl) (by kernel_rfl) (by kernel_rfl) (by intro _ _ _ h; exact h) (Or.inl ⟨by rfl, fun W hSw => ?_⟩) hHeld ?_
          rotate_left 1
          · (clear hSw; first | (go_simp; done) | (go_simp; with_reducible rfl))
          try go_frame
          refine wpAnyH_done (by kernel_rfl) ?_ _
          clear hHeld HH
          go_wp2_with fail
          go_ret
          exact ⟨by rw [HS.out]; first | rfl | simp, HK4.out, HP4.out⟩
        · have h3a : (fk == (3 : Int)) = false := by simpa using h3
          have h3b : decide (fk = (3 : Int)) = false := by simpa using h3
          have HS2 : Hid (supK K c = false) := Lib.hid (by rw [HS.out, h4b, h3b]; rfl)
          have HH : Hid (w2.drew.cell? ⟨lb, 0, none⟩ = some (.pointer (some ⟨tb, 0, none⟩)) ∧ w2.drew.cell? ⟨tc, 1, none⟩ = some (.string sp)) := Lib.hid ⟨c0, x1⟩
          refine wp_region_held_drew (S := fun W => W.cell? ⟨lb, 0, none⟩ = some (.pointer (some ⟨tb, 0, none⟩)) ∧ W.cell? ⟨tc, 1, none⟩ = some (.string sp)) (by kernel_rfl) HH.out (fun hHeld => ?_)
          refine wpAnyH_take (i := 0) (oi := _) (v := ?_) (by simp only [List.getElem?_toArray, List.getElem?_cons_zero]; rfl) (by kernel_rfl) (by kernel_rfl) (by kernel_rfl) (by intro _ _ _ h; exact h) (Or.inl ⟨by rfl, fun W hSw => ?_⟩) hHeld ?_
          rotate_left 1
          · (clear hSw; first | (go_simp; done) | (go_simp; with_reducible rfl))
          try go_frame
          refine wpAnyH_take (i := 1) (oi := _) (v := ?_) (by simp only [List.getElem?_toArray, List.getElem?_cons_succ, List.getElem?_cons_zero]; rfl) (by kernel_rfl) (by kernel_rfl) (by kernel_rfl) (by intro _ _ _ h; exact h) (Or.inl ⟨by rfl, fun W hSw => ?_⟩) hHeld ?_
          rotate_left 1
          · (clear hSw; first | (go_simp; done) | (go_simp; with_reducible rfl))
          try go_frame
          refine wpAnyH_take (i := 2) (oi := _) (v := ?_) (by simp only [List.getElem?_toArray, List.getElem?_cons_succ, List.getElem?_cons_zero]; rfl) (by kernel_rfl) (by kernel_rfl) (by kernel_rfl) (by intro _ _ _ h; exact h) (Or.inl ⟨by rfl, fun W hSw => ?_⟩) hHeld ?_
          rotate_left 1
          · (clear hSw; first | (go_simp; done) | (go_simp; with_reducible rfl))
          try go_frame
          refine wpAnyH_take (i := 3) (oi := _) (v := ?_) (by simp only [List.getElem?_toArray, List.getElem?_cons_succ, List.getElem?_cons_zero]; rfl) (by kernel_rfl) (by kernel_rfl) (by kernel_rfl) (by intro _ _ _ h; exact h) (Or.inl ⟨by rfl, fun W hSw => ?_⟩) hHeld ?_
          rotate_left 1
          · (try dsimp only at hSw); first | (go_simp; done) | (go_simp; with_reducible rfl)
          try go_frame
          refine wpAnyH_take (i := 4) (oi := _) (v := ?_) (by simp only [List.getElem?_toArray, List.getElem?_cons_succ, List.getElem?_cons_zero]; rfl) (by kernel_rfl) (by kernel_rfl) (by kernel_rfl) (by intro _ _ _ h; exact h) (Or.inl ⟨by rfl, fun W hSw => ?_⟩) hHeld ?_
          rotate_left 1
          · (clear hSw; first | (go_simp; done) | (go_simp; with_reducible rfl))
          try go_frame
          refine wpAnyH_take (i := 5) (oi := _) (v := ?_) (by simp only [List.getElem?_toArray, List.getElem?_cons_succ, List.getElem?_cons_zero]; rfl) (by kernel_rfl) (by kernel_rfl) (by kernel_rfl) (by intro _ _ _ h; exact h) (Or.inl ⟨by rfl, fun W hSw => ?_⟩) hHeld ?_
          rotate_left 1
          · (try dsimp only at hSw); first | (go_simp; done) | (go_simp; with_reducible rfl)
          try go_frame
          refine wpAnyH_ready (rs := [6]) (by kernel_rfl) (by simp) ?_
          refine AllReadyH.cons (o := _) (by simp only [List.getElem?_toArray, List.getElem?_cons_succ, List.getElem?_cons_zero]; rfl) (fun K hK => ?_) AllReadyH.nil
          clear hHeld
          go_simp
          refine hkt.mono ?_
          rintro e w4 ⟨rfl, hb4⟩
          have HK4 := Lib.hid (HK3.out.below hb4)
          have HP4 := Lib.hid (HP3.out.trans (S.Kpt.of_below (S := [fb]) hb4) (fun y hy => .inl hy))
          have HH : Hid (w4.cell? ⟨lb, 0, none⟩ = some (.pointer (some ⟨tb, 0, none⟩)) ∧ w4.cell? ⟨tc, 1, none⟩ = some (.string sp)) := Lib.hid ⟨HK4.out.cells.2.2.2.1, (hb4.cell tl).trans x1⟩
          clear hb4
          refine hK.out _ _ HH.out (fun hHeld => ?_)
          clear hK K
          try go_frame
          refine wpAnyH_take (i := 7) (oi := _) (v := ?_) (by simp only [List.getElem?_toArray, List.getElem?_cons_succ, List.getElem?_cons_zero]; rfl) (by kernel_rfl) (by kernel_rfl) (by kernel_rfl) (by intro _ _ _ h; exact h) (Or.inl ⟨by rfl, fun W hSw => ?_⟩) hHeld ?_
          rotate_left 1
          · (clear hSw; first | (go_simp; done) | (go_simp; with_reducible rfl))
          try go_frame
          refine wpAnyH_take (i := 8) (oi := _) (v := ?_) (by simp only [List.getElem?_toArray, List.getElem?_cons_succ, List.getElem?_cons_zero]; rfl) (by kernel_rfl) (by kernel_rfl) (by kernel_rfl) (by intro _ _ _ h; exact h) (Or.inl ⟨by rfl, fun W hSw => ?_⟩) hHeld ?_
          rotate_left 1
          · (clear hSw; first | (go_simp; done) | (go_simp; with_reducible rfl))
          try go_frame
          refine wpAnyH_take (i := 9) (oi := _) (v := ?_) (by simp only [List.getElem?_toArray, List.getElem?_cons_succ, List.getElem?_cons_zero]; rfl) (by kernel_rfl) (by kernel_rfl) (by kernel_rfl) (by intro _ _ _ h; exact h) (Or.inl ⟨by rfl, fun W hSw => ?_⟩) hHeld ?_
          rotate_left 1
          · (clear hSw; first | (go_simp; done) | (go_simp; with_reducible rfl))
          try go_frame
          refine wpAnyH_take (i := 10) (oi := _) (v := ?_) (by simp only [List.getElem?_toArray, List.getElem?_cons_succ, List.getElem?_cons_zero]; rfl) (by kernel_rfl) (by kernel_rfl) (by kernel_rfl) (by intro _ _ _ h; exact h) (Or.inl ⟨by rfl, fun W hSw => ?_⟩) hHeld ?_
          rotate_left 1
          · (clear hSw; first | (go_simp; done) | (go_simp; with_reducible rfl))
          try go_frame
          refine wpAnyH_take (i := 11) (oi := _) (v := ?_) (by simp only [List.getElem?_toArray, List.getElem?_cons_succ, List.getElem?_cons_zero]; rfl) (by kernel_rfl) (by kernel_rfl) (by kernel_rfl) (by intro _ _ _ h; exact h) (Or.inl ⟨by rfl, fun W hSw => ?_⟩) hHeld ?_
          rotate_left 1
          · (clear hSw; first | (go_simp; done) | (go_simp; with_reducible rfl))
          try go_frame
          refine wpAnyH_take (i := 12) (oi := _) (v := ?_) (by simp only [List.getElem?_toArray, List.getElem?_cons_succ, List.getElem?_cons_zero]; rfl) (by kernel_rfl) (by kernel_rfl) (by kernel_rfl) (by intro _ _ _ h; exact h) (Or.inl ⟨by rfl, fun W hSw => ?_⟩) hHeld ?_
          rotate_left 1
          · (clear hSw; first | (go_simp; done) | (go_simp; with_reducible rfl))
          try go_frame
          refine wpAnyH_take (i := 13) (oi := _) (v := ?_) (by simp only [List.getElem?_toArray, List.getElem?_cons_succ, List.getElem?_cons_zero]; rfl) (by kernel_rfl) (by kernel_rfl) (by kernel_rfl) (by intro _ _ _ h; exact h) (Or.inl ⟨by rfl, fun W hSw => ?_⟩) hHeld ?_
          rotate_left 1
          · (clear hSw; first | (go_simp; done) | (go_simp; with_reducible rfl))
          try go_frame
          refine wpAnyH_take (i := 14) (oi := _) (v := ?_) (by simp only [List.getElem?_toArray, List.getElem?_cons_succ, List.getElem?_cons_zero]; rfl) (by kernel_rfl) (by kernel_rfl) (by kernel_rfl) (by intro _ _ _ h; exact h) (Or.inl ⟨by rfl, fun W hSw => ?_⟩) hHeld ?_
          rotate_left 1
          · (clear hSw; first | (go_simp; done) | (go_simp; with_reducible rfl))
          try go_frame
          refine wpAnyH_take (i := 15) (oi := _) (v := ?_) (by simp only [List.getElem?_toArray, List.getElem?_cons_succ, List.getElem?_cons_zero]; rfl) (by kernel_rfl) (by kernel_rfl) (by kernel_rfl) (by intro _ _ _ h; exact h) (Or.inl ⟨by rfl, fun W hSw => ?_⟩) hHeld ?_
          rotate_left 1
          · (clear hSw; first | (go_simp; done) | (go_simp; with_reducible rfl))
          try go_frame
          refine wpAnyH_take (i := 16) (oi := _) (v := ?_) (by simp only [List.getElem?_toArray, List.getElem?_cons_succ, List.getElem?_cons_zero]; rfl) (by kernel_rfl) (by kernel_rfl) (by kernel_rfl) (by intro _ _ _ h; exact h) (Or.inl ⟨by rfl, fun W hSw => ?_⟩) hHeld ?_
          rotate_left 1
          · (clear hSw; first | (go_simp; done) | (go_simp; with_reducible rfl))
          try go_frame
          refine wpAnyH_done (by kernel_rfl) ?_ _
          clear hHeld HH
          go_wp2_with fail
          go_ret
          exact ⟨by rw [HS2.out]; first | rfl | simp, HK4.out, HP4.out⟩
end Go.Proofs.YtlmpnmnfloeoiaaGreat.R
