/- Texts that the proof is made of, joined. No condition. -/
import Derived.Test.YtlmpnmnfloeoiaaGreatC1021
import Derived.Test.YtlmpnmnfloeoiaaGreatC102
import Derived.Deep.RegionLaw
import Derived.Test.YtlmpnmnfloeoiaaGreatC10H
set_option linter.unusedVariables false
set_option linter.unusedSimpArgs false
set_option maxRecDepth 100000
set_option maxHeartbeats 16000000
namespace Go.Proofs.YtlmpnmnfloeoiaaGreat.R
open Go.RowKit Go.Proofs.YtlmpnmnfloeoiaaGreat.D Go.Proofs.YtlmpnmnfloeoiaaGreat.O Go.Proofs.YtlmpnmnfloeoiaaGreat.A
theorem cop_start {wr y1 y2 : World} {tb : Nat} {c : Cls} {ok : Nat → Prop} {vi vf vm : Value} {rs : List (Raw 9)} (hX : y2.heap[tb]? = some (.cells #[.string c.name, .string c.super, vi, .int .i64 c.kind, vf, vm] 27 (0, 0))) (htb : tb = wr.heap.size) (h12 : Below wr.heap.size wr y2) (hk : ∀ b, b < y1.heap.size → b ≠ tb → y2.heap[b]? = y1.heap[b]?) (hs : y1.heap.size ≤ y2.heap.size)
    (hi : RdX 1 (sP strC) (fun b => tb < b) y1 vi c.ifaces) (hf : RdX 4 (sP fldC) (fun b => tb < b) y1 vf c.fields) (hm : OwnX 9 42 (sP rawC) y2 y1.heap.size vm rs) (hy : tb < y1.heap.size) (h2 : All2 (fun r x => mP ok wr (rawC r) x) rs c.methods) : CpC y2 tb vi vf vm rs c (3 * 0) := by
  have hst : ∀ {sz : Nat} {α : Type} {cc : α → List Value} {v : Value} {xs : List α}, RdX sz (sP cc) (fun b => tb < b) y1 v xs → RdX sz (sP cc) (okN tb vm True) y2 v xs := fun h => h.step (sP.grow _) (fun b hb hl => ⟨fun _ => hb, by omega, fun e => by have := (hm.lt b e).1; omega⟩) (fun b hb hl => hk b hl (by omega)) hs
  have hold : ∀ {sz : Nat} {α : Type} {cc : α → List Value} {v : Value} {xs : List α} {P : Prop}, ¬ P → RdX sz (sP cc) ok wr v xs → RdX sz (sP cc) (okN tb vm P) y2 v xs := fun hp h => h.step (sP.grow _) (fun b hb hl => ⟨fun p => absurd p hp, by omega, fun e => by have := (hm.lt b e).1; omega⟩) (.of_below h12) h12.size
  refine ⟨hX, hst hi, hst hf, ⟨hm.mono (sP.grow _) hy, h2.len, fun j m hj => ?_⟩, fun e => by have := (hm.lt _ e).1; omega⟩
  obtain ⟨r, e, vp, vc, vh, e2, p1, p2, p3⟩ := h2.at j m hj
  exact ⟨r, vp, vc, vh, e, e2, hold (by omega) p1, hold (by omega) p2, hold (by omega) p3⟩
set_option maxHeartbeats 8000000 in
set_option maxRecDepth 100000 in
theorem copied_h (A : List Cls) (p : Option Addr) (cap : Nat) (ok : Nat → Prop) (w : World) (hr : RdX 6 cP ok w (.slice p A.length cap) A) (hl : A.length ≤ 100000) (hf : ∀ c ∈ A, FewC c) :
    Calls Tryz.prog 31 #[.agg #[.slice p A.length cap]] w fun e w' => ∃ va rs lo hi, e = .returned (.agg #[va]) ∧ RwQ w' w.heap.size va rs A lo hi ∧ Below w.heap.size w w' := by
  have HM := Lib.hid hr
  have HF := Lib.hid hf
  clear hr hf
  go_enter Tryz.func31, Tryz.ntmps31
  go_wp2_with fail
  obtain ⟨w0, hw0⟩ : ∃ x, x = ((w.alloc (.cells #[.slice p A.length cap] 30)).alloc (.cells #[.slice none 0 0] 30)).alloc (.cells #[.slice none 0 0] 30) := ⟨_, rfl⟩
  have b1 := below_alR w (.cells #[.slice p A.length cap] 30)
  have b2 := below_alR (w.alloc (.cells #[.slice p A.length cap] 30)) (.cells #[.slice none 0 0] 30)
  have b3 := below_alR ((w.alloc (.cells #[.slice p A.length cap] 30)).alloc (.cells #[.slice none 0 0] 30)) (.cells #[.slice none 0 0] 30)
  have HP : Hid (w0.heap[w.heap.size]? = some (.cells #[.slice p A.length cap] 30 (0, 0))) := Lib.hid (by rw [hw0, b3.block _ (by simp <;> omega), b2.block _ (by simp)]; exact heap_alloc_new _ _)
  have HR : Hid (w0.heap[w.heap.size + 1]? = some (.cells #[.slice none 0 0] 30 (0, 0))) := Lib.hid (by rw [hw0, b3.block _ (by simp)]; have := heap_alloc_new (w.alloc (.cells #[.slice p A.length cap] 30)) (.cells #[.slice none 0 0] 30); rwa [World.size_alloc] at this)
  have HX : w0.heap[w.heap.size + 1 + 1]? = some (.cells #[.slice none 0 0] 30 (0, 0)) := by rw [hw0]; have := heap_alloc_new ((w.alloc (.cells #[.slice p A.length cap] 30)).alloc (.cells #[.slice none 0 0] 30)) (.cells #[.slice none 0 0] 30); rwa [World.size_alloc, World.size_alloc] at this
  have HB0 : Hid (Below w.heap.size w w0) := Lib.hid (by rw [hw0]; exact b1.trans ((b2.mono (by simp)).trans (b3.mono (by simp <;> omega))))
  rw [← hw0]
  clear hw0 b1 b2 b3
  have HQ : Hid (ArQ w0 (w.heap.size + 1 + 1 + 1) (w.heap.size + 1 + 1) (.slice none 0 0) [] [] (fun _ => 0) (fun _ => 0)) := Lib.hid ⟨HX, rfl, OwnX.nil _ _ _ _ _, rfl, fun j c h => (by simp at h), fun j h => (by simp at h), fun j j' _ h => (by simp at h)⟩
  clear HX
  obtain ⟨a, ha⟩ : ∃ x, w.heap.size + 1 + 1 = x := ⟨_, rfl⟩
  obtain ⟨rb, hrb⟩ : ∃ x, w.heap.size + 1 = x := ⟨_, rfl⟩
  rw [ha] at HQ ⊢
  rw [hrb] at HR ⊢
  have HN : Hid (rb = w.heap.size + 1 ∧ a = w.heap.size + 2) := Lib.hid ⟨by omega, by omega⟩
  clear ha hrb
  have HB1 : Hid (Below a w0 w0) := Lib.hid (Below.refl _ _)
  go_loopw [4] (fun x wr => ∃ (i : Nat) (va : Value) (rs : List (Raw 6)) (lo hi : Nat → Nat), x = .int .i64 (i : Int) ∧ i ≤ A.length ∧ Hid (ArQ wr (a + 1) a va rs (A.take i) lo hi) ∧ Hid (Below a w0 wr)) (fun x _ => A.length - (intOf x).toNat)
  case atStart => exact ⟨0, _, _, _, _, rfl, by omega, HQ, HB1⟩
  case round =>
    clear HQ HB1
    obtain ⟨i, va, rs, lo, up, rfl, hi, HQ, HB⟩ := hrel
    obtain ⟨hrb, ha⟩ := HN.out
    have hp0 := (HB.out.block _ (by omega)).trans HP.out
    have hr0 := (HB.out.block _ (by omega)).trans HR.out
    obtain ⟨p_l, p_c, -⟩ := boxN hp0
    have p_0 := p_c 0 _ rfl
    simp only [Nat.zero_add] at p_0
    obtain ⟨r_l, r_c, r_f⟩ := boxN hr0
    have r_0 := r_c 0 _ rfl
    have r_z := r_f 0
    simp only [Nat.zero_add] at r_0
    obtain ⟨a_l, a_0, a_z⟩ := HQ.out.cells
    clear p_c r_c r_f hp0 hr0 hrb ha
    by_cases hlt : i < A.length
    · obtain ⟨c, hcc⟩ : ∃ c, A[i]? = some c := ⟨_, List.getElem?_eq_getElem hlt⟩
      have hlt' : (i : Int) < (A.length : Int) := by omega
      have i0 : (0 : Int) ≤ (i : Int) := by omega
      have hne : A ≠ [] := by intro h; rw [h] at hlt; simp at hlt
      have hbw : Below w.heap.size w wr := HB0.out.trans (HB.out.mono (by have := HN.out; omega))
      have hsw := hbw.size
      obtain ⟨b, off, rfl, -, -, hBb, hbl, hcells⟩ := (HM.out.any cP.grow hbw).place hne
      obtain ⟨l, ⟨vi, vf, vm, rfl, k1, k2, k3⟩, hcell⟩ := hcells _ _ hcc
      obtain ⟨pi, ci, rfl, -⟩ := k1.len
      obtain ⟨pf, cf, rfl, -⟩ := k2.len
      obtain ⟨pm, cm, rfl, -⟩ := k3.len
      obtain ⟨y0, y1, y2, y3, y4, y5⟩ := (show CellsAt wr b (off + i * 6) _ from hcell).six
      have hmem := List.mem_of_getElem? hcc
      obtain ⟨hl1, hl2, hl3, hlm⟩ := HF.out c hmem
      obtain ⟨rs0, hm1, hm2⟩ := k3.unraw shape_mth
      have hl4 : rs0.length ≤ 1000000 := by rw [hm2.len]; exact hl3
      have hrl : rs0.length = c.methods.length := hm2.len
      have HI := Lib.hid k1
      have HFD := Lib.hid k2
      have HMT := Lib.hid hm1
      have HM2 := Lib.hid hm2
      have HLM := Lib.hid hlm
      have HTK : Hid (A.take (i + 1) = A.take i ++ [c]) := Lib.hid (take_snoc hcc)
      have hti : (A.take i).length = i := by rw [List.length_take]; omega
      obtain ⟨wK, hwK⟩ : ∃ x, x = wr.alloc (.cells #[.string c.name, .string c.super, .slice pi c.ifaces.length ci, .int .i64 c.kind, .slice pf c.fields.length cf, .slice pm c.methods.length cm] 27) := ⟨_, rfl⟩
      have hA : Below wr.heap.size wr wK := by rw [hwK]; exact below_alR _ _
      have hxK : wK.heap[wr.heap.size]? = some (.cells #[.string c.name, .string c.super, .slice pi c.ifaces.length ci, .int .i64 c.kind, .slice pf c.fields.length cf, .slice pm c.methods.length cm] 27 (0, 0)) := by rw [hwK]; exact heap_alloc_new _ _
      have HXK := Lib.hid hxK
      have HA := Lib.hid hA
      have hzK : wr.heap.size < wK.heap.size := (Array.getElem?_eq_some_iff.1 hxK).1
      clear hcells hcell hne hBb hmem k1 k2 k3 hm1 hm2 hlm hA hxK hbw
      go_upto_region 6 with fail
      rw [← hwK]
      clear hwK y0 y1 y2 y3 y4 y5 hbl p_l p_0 r_l r_0 r_z a_l a_0 a_z
      obtain ⟨tb, htb⟩ : ∃ x, wr.heap.size = x := ⟨_, rfl⟩
      have HTB := Lib.hid htb
      rw [htb] at HXK HA hzK ⊢
      clear htb
      obtain ⟨ul, uc, uf⟩ := boxN HXK.out
      have u2 := uc 2 _ rfl
      have uz2 := uf 2
      simp only [Nat.zero_add] at u2
      clear uc uf
      have hr0 := HI.out.any (sP.grow _) (HTB.out ▸ HA.out)
      go_upto_region 7 with (at_builtin; refine wp_copyX inf_str shape_str rfl _ _ rfl rfl _ _ _ _ rfl hr0 hl1 ?_; intro p0 n0 c0 x0 ho0 hb0; have hX0 : x0.heap[tb]? = some (.cells #[.string c.name, .string c.super, .slice pi c.ifaces.length ci, .int .i64 c.kind, .slice pf c.fields.length cf, .slice pm c.methods.length cm] 27 (0, 0)) := (hb0.block _ hzK).trans HXK.out; obtain ⟨a0_l, a0_c, a0_f⟩ := boxN hX0; have a0_2 := a0_c 2 _ rfl; have a0_z2 := a0_f 2; have a0_4 := a0_c 4 _ rfl; have a0_z4 := a0_f 4; simp only [Nat.zero_add] at a0_2 a0_4; clear a0_c a0_f)
      obtain ⟨y0, hy0⟩ : ∃ x, x = x0.setCell ⟨tb, 2, none⟩ (.slice p0 n0 c0) := ⟨_, rfl⟩
      rw [← hy0]
      have kS0 : Kpt [tb] x0 y0 := by rw [hy0]; exact Kpt.set _ _ _ _ _ (by simp)
      have HX1 : Hid (y0.heap[tb]? = some (.cells #[.string c.name, .string c.super, .slice p0 n0 c0, .int .i64 c.kind, .slice pf c.fields.length cf, .slice pm c.methods.length cm] 27 (0, 0))) := Lib.hid (by rw [hy0, heap_setCell_same _ _ 2 _ _ _ hX0]; rfl)
      have hsx0 := hb0.size
      have hsy0 := kS0.size
      have HO0 := Lib.hid (((ho0.kptS kS0 (fun g e => by have := (ho0.lt g e).1; simp; omega)).rd (sP.grow _)).step (sP.grow _) (ok' := fun b => tb < b) (fun b hb _ => by omega) (fun _ _ _ => rfl) (Nat.le_refl _))
      have HW1 := Lib.hid ((HA.out.trans (hb0.mono (by omega))).trans (Kpt.below kS0 (B := tb) (fun x hx => by simp at hx; omega) (by omega)))
      have hge0 : tb < y0.heap.size := by omega
      clear hy0 hX0 hr0 hb0 ho0 kS0 hsx0 hsy0 a0_l a0_2 a0_z2 a0_4 a0_z4 ul u2 uz2 HXK HA hzK
      obtain ⟨v1l, v1c, v1f⟩ := boxN HX1.out
      have v14 := v1c 4 _ rfl
      have v1z4 := v1f 4
      simp only [Nat.zero_add] at v14
      clear v1c v1f
      have hr1 := HFD.out.any (sP.grow _) (HTB.out ▸ HW1.out)
      go_upto_region 8 with (at_builtin; refine wp_copyX inf_fld shape_fld rfl _ _ rfl rfl _ _ _ _ rfl hr1 hl2 ?_; intro p1 n1 c1 x1 ho1 hb1; have hX1 : x1.heap[tb]? = some (.cells #[.string c.name, .string c.super, .slice p0 n0 c0, .int .i64 c.kind, .slice pf c.fields.length cf, .slice pm c.methods.length cm] 27 (0, 0)) := (hb1.block _ hge0).trans HX1.out; obtain ⟨a1_l, a1_c, a1_f⟩ := boxN hX1; have a1_4 := a1_c 4 _ rfl; have a1_z4 := a1_f 4; have a1_5 := a1_c 5 _ rfl; have a1_z5 := a1_f 5; simp only [Nat.zero_add] at a1_4 a1_5; clear a1_c a1_f)
      obtain ⟨y1, hy1⟩ : ∃ x, x = x1.setCell ⟨tb, 4, none⟩ (.slice p1 n1 c1) := ⟨_, rfl⟩
      rw [← hy1]
      have kS1 : Kpt [tb] x1 y1 := by rw [hy1]; exact Kpt.set _ _ _ _ _ (by simp)
      have HX2 : Hid (y1.heap[tb]? = some (.cells #[.string c.name, .string c.super, .slice p0 n0 c0, .int .i64 c.kind, .slice p1 n1 c1, .slice pm c.methods.length cm] 27 (0, 0))) := Lib.hid (by rw [hy1, heap_setCell_same _ _ 4 _ _ _ hX1]; rfl)
      have hsx1 := hb1.size
      have hsy1 := kS1.size
      have HO1 := Lib.hid (((ho1.kptS kS1 (fun g e => by have := (ho1.lt g e).1; simp; omega)).rd (sP.grow _)).step (sP.grow _) (ok' := fun b => tb < b) (fun b hb _ => by omega) (fun _ _ _ => rfl) (Nat.le_refl _))
      replace HO0 := Lib.hid (HO0.out.step (sP.grow _) (w' := y1) (ok' := fun b => tb < b) (fun b hb _ => hb) (fun b hb hl => (kS1.2 b (by omega) (by simp; omega)).trans (hb1.block b hl)) (by omega))
      have HW2 := Lib.hid ((HW1.out.trans (hb1.mono (by omega))).trans (Kpt.below kS1 (B := tb) (fun x hx => by simp at hx; omega) (by omega)))
      have hge1 : tb < y1.heap.size := by omega
      clear hy1 hX1 hr1 hb1 ho1 kS1 hsx1 hsy1 a1_l a1_4 a1_z4 a1_5 a1_z5 v1l v14 v1z4 HX1 HW1 hge0
      obtain ⟨v2l, v2c, v2f⟩ := boxN HX2.out
      have v25 := v2c 5 _ rfl
      have v2z5 := v2f 5
      simp only [Nat.zero_add] at v25
      clear v2c v2f
      have hr2 := HMT.out.any (sP.grow _) (HTB.out ▸ HW2.out)
      go_wp2_with (at_builtin; refine wp_copyX inf_mth (shape_raw 9) rfl _ _ rfl rfl _ _ _ _ rfl hr2 hl4 ?_; intro p2 n2 c2 x2 ho2 hb2; have hX2 : x2.heap[tb]? = some (.cells #[.string c.name, .string c.super, .slice p0 n0 c0, .int .i64 c.kind, .slice p1 n1 c1, .slice pm c.methods.length cm] 27 (0, 0)) := (hb2.block _ hge1).trans HX2.out; obtain ⟨a2_l, a2_c, a2_f⟩ := boxN hX2; have a2_5 := a2_c 5 _ rfl; have a2_z5 := a2_f 5; simp only [Nat.zero_add] at a2_5; clear a2_c a2_f)
      obtain ⟨z2, hz2⟩ : ∃ x, x = x2.setCell ⟨tb, 5, none⟩ (.slice p2 n2 c2) := ⟨_, rfl⟩
      rw [← hz2]
      have kS2 : Kpt [tb] x2 z2 := by rw [hz2]; exact Kpt.set _ _ _ _ _ (by simp)
      have hsx2 := hb2.size
      have hsy2 := kS2.size
      obtain rfl : n2 = c.methods.length := by
        obtain ⟨pq, cq, e, -⟩ := (ho2.rd (sP.grow _)).len
        simp only [Value.slice.injEq] at e
        omega
      have HB2 : Hid (Below tb wr z2) := Lib.hid ((HW2.out.trans (hb2.mono (by omega))).trans (Kpt.below kS2 (B := tb) (fun x hx => by simp at hx; omega) (by omega)))
      have HC0 : Hid (CpC z2 tb (.slice p0 n0 c0) (.slice p1 n1 c1) (.slice p2 c.methods.length c2) rs0 c (3 * 0)) := Lib.hid (cop_start (y1 := y1) (by rw [hz2, heap_setCell_same _ _ 5 _ _ _ hX2]; rfl) HTB.out.symm (HTB.out ▸ HB2.out) (fun b hb hne => (kS2.2 b (by omega) (by simpa using hne)).trans (hb2.block b hb)) (by omega) HO0.out HO1.out (ho2.kptS kS2 (fun g e => by have := (ho2.lt g e).1; simp; omega)) hge1 HM2.out)
      clear hz2 hX2 hr2 hb2 ho2 kS2 hsx2 hsy2 a2_l a2_5 a2_z5 v2l v25 v2z5 HX2 HW2 hge1 HO0 HO1 HI HFD HMT HM2
      obtain ⟨vi, hvi⟩ : ∃ x, Value.slice p0 n0 c0 = x := ⟨_, rfl⟩
      obtain ⟨vf, hvf⟩ : ∃ x, Value.slice p1 n1 c1 = x := ⟨_, rfl⟩
      obtain ⟨vm, hvm⟩ : ∃ x, Value.slice p2 c.methods.length c2 = x := ⟨_, rfl⟩
      rw [hvi, hvf, hvm] at HC0
      have HVM := Lib.hid hvm
      have HVI := Lib.hid hvi
      have HVF := Lib.hid hvf
      clear hvi hvf hvm
      obtain ⟨wo, rfl⟩ : ∃ x, x = wr := ⟨_, rfl⟩
      go_loopw [6] (fun x wi => ∃ (k : Nat) (rq : List (Raw 9)), x = .int .i64 (k : Int) ∧ k ≤ c.methods.length ∧ Hid (CpC wi tb vi vf vm rq c (3 * k)) ∧ Hid (Below tb wo wi)) (fun x _ => c.methods.length - (intOf x).toNat)
      case atStart => exact ⟨0, _, rfl, by omega, HC0, HB2⟩
      case round =>
        clear HC0 HB2
        obtain ⟨k, rq, rfl, hk, HCQ, HBQ⟩ := hrel
        have hheld := HCQ.out.held
        rw [← HVM.out] at hheld
        by_cases hkl : k < c.methods.length
        · obtain ⟨m, hmm⟩ : ∃ m, c.methods[k]? = some m := ⟨_, List.getElem?_eq_getElem hkl⟩
          have hkl' : (k : Int) < (c.methods.length : Int) := by omega
          have k0 : (0 : Int) ≤ (k : Int) := by omega
          have HL0 := Lib.hid (HLM.out m (List.mem_of_getElem? hmm)).1
          have HL1 := Lib.hid (HLM.out m (List.mem_of_getElem? hmm)).2.1
          have HL2 := Lib.hid (HLM.out m (List.mem_of_getElem? hmm)).2.2
          go_upto_region 12 with fail
          clear hheld HVM
          have HS : Hid (CpC wr.drew tb vi vf vm rq c (3 * k)) := Lib.hid (HCQ.out.below ((Below.refl _ _).drew))
          obtain ⟨g, cg, pp, cp, okp, hve, hgb, hgl, hy, hrd⟩ := HS.out.get0 hmm
          rw [hve] at HS
          have HVE := Lib.hid hve
          clear hve
          have HRD := Lib.hid hrd
          clear hrd
          go_upto_region 12 with fail
          refine wp_region_held_drew (S := fun W => W.cell? ⟨tb, 5, none⟩ = some (.slice (some ⟨g, 0, none⟩) c.methods.length cg)) (by kernel_rfl) HS.out.held (fun hHeld => ?_)
          refine wpAnyH_take (i := 0) (oi := _) (v := ?_) (by simp only [List.getElem?_toArray, List.getElem?_cons_zero]; rfl) (by kernel_rfl) (by kernel_rfl) (by kernel_rfl) (by intro _ _ _ h; exact h) (Or.inl ⟨by rfl, fun W hSw => ?_⟩) hHeld ?_
          rotate_left 1
          · (clear hSw; first | (go_simp; done) | (go_simp; with_reducible rfl))
          try go_frame
          refine wpAnyH_take (i := 1) (oi := _) (v := ?_) (by simp only [List.getElem?_toArray, List.getElem?_cons_succ, List.getElem?_cons_zero]; rfl) (by kernel_rfl) (by kernel_rfl) (by kernel_rfl) (by intro _ _ _ h; exact h) (Or.inl ⟨by rfl, fun W hSw => ?_⟩) hHeld ?_
          rotate_left 1
          · (try dsimp only at hSw); first | (go_simp; done) | (go_simp; with_reducible rfl)
          try go_frame
          refine wpAnyH_take (i := 2) (oi := _) (v := ?_) (by simp only [List.getElem?_toArray, List.getElem?_cons_succ, List.getElem?_cons_zero]; rfl) (by kernel_rfl) (by kernel_rfl) (by kernel_rfl) (by intro _ _ _ h; exact h) (Or.inl ⟨by rfl, fun W hSw => ?_⟩) hHeld ?_
          rotate_left 1
          · (clear hSw; first | (go_simp; done) | (go_simp; with_reducible rfl))
          try go_frame
          refine wpAnyH_take (i := 3) (oi := _) (v := ?_) (by simp only [List.getElem?_toArray, List.getElem?_cons_succ, List.getElem?_cons_zero]; rfl) (by kernel_rfl) (by kernel_rfl) (by kernel_rfl) (by intro _ _ _ h; exact h) (Or.inl ⟨by rfl, fun W hSw => ?_⟩) hHeld ?_
          rotate_left 1
          · (clear hSw; first | (go_simp; done) | (go_simp; with_reducible rfl))
          try go_frame
          refine wpAnyH_take (i := 4) (oi := _) (v := ?_) (by simp only [List.getElem?_toArray, List.getElem?_cons_succ, List.getElem?_cons_zero]; rfl) (by kernel_rfl) (by kernel_rfl) (by kernel_rfl) (by intro _ _ _ h; exact h) (Or.inl ⟨by rfl, fun W hSw => ?_⟩) hHeld ?_
          rotate_left 1
          · (try dsimp only at hSw); first | (go_simp; done) | (go_simp; with_reducible rfl)
          try go_frame
          refine wpAnyH_take (i := 5) (oi := _) (v := ?_) (by simp only [List.getElem?_toArray, List.getElem?_cons_succ, List.getElem?_cons_zero]; rfl) (by kernel_rfl) (by kernel_rfl) (by kernel_rfl) (by intro _ _ _ h; exact h) (Or.inl ⟨by rfl, fun W hSw => ?_⟩) hHeld ?_
          rotate_left 1
          · (clear hSw; first | (go_simp; done) | (go_simp; with_reducible rfl))
          try go_frame
          refine wpAnyH_take (i := 6) (oi := _) (v := ?_) (by simp only [List.getElem?_toArray, List.getElem?_cons_succ, List.getElem?_cons_zero]; rfl) (by kernel_rfl) (by kernel_rfl) (by kernel_rfl) (by intro _ _ _ h; exact h) (Or.inl ⟨by rfl, fun W hSw => ?_⟩) hHeld ?_
          rotate_left 1
          · (clear hSw; first | (go_simp; done) | (go_simp; with_reducible rfl))
          try go_frame
          refine wpAnyH_take (i := 7) (oi := _) (v := ?_) (by simp only [List.getElem?_toArray, List.getElem?_cons_succ, List.getElem?_cons_zero]; rfl) (by kernel_rfl) (by kernel_rfl) (by kernel_rfl) (by intro _ _ _ h; exact h) (Or.inl ⟨by rfl, fun W hSw => ?_⟩) hHeld ?_
          rotate_left 1
          · (clear hSw; first | (go_simp; done) | (go_simp; with_reducible rfl))
          try go_frame
          refine wpAnyH_ready (rs := [8]) (by kernel_rfl) (by simp) ?_
          refine AllReadyH.cons (o := _) (by simp only [List.getElem?_toArray, List.getElem?_cons_succ, List.getElem?_cons_zero]; rfl) (fun KX hKX => ?_) AllReadyH.nil
          clear hHeld
          go_simp
          refine hKX.out _ _ HS.out.held (fun hHeld => ?_)
          clear hKX KX
          try go_frame
          refine wpAnyH_ready (rs := [9]) (by kernel_rfl) (by simp) ?_
          refine AllReadyH.cons (o := _) (by simp only [List.getElem?_toArray, List.getElem?_cons_succ, List.getElem?_cons_zero]; rfl) (fun KX hKX => ?_) AllReadyH.nil
          clear hHeld
          refine step_copyX inf_typ shape_typ (by rfl) _ _ (by rfl) (by rfl) _ _ _ _ (by rfl) HRD.out HL0.out ?_
          intro p6 n6 c6 w6 ho6 hb6
          obtain ⟨e1, e2, ⟨o6, e3⟩, rs6, hC6, hB6⟩ := (HS.out.below hb6).put0 hmm rfl (okN.new ho6 HS.out.lt (fun g' e => by cases e; exact hgl)) rfl
          have HC6 := Lib.hid hC6
          have HB6 := Lib.hid ((show Below tb _ _ from hb6.mono (Nat.le_of_lt HS.out.lt)).trans (show Below tb _ _ from hB6.mono (Nat.le_succ _)))
          have HS6 := Lib.hid (HS.out.below hb6)
          clear hC6 hB6 ho6 hb6 HS
          have HS := HS6
          clear HS6
          refine hKX.out _ _ HS.out.held (fun hHeld => ?_)
          clear hKX KX
          try go_frame
          refine wpAnyH_take (i := 10) (oi := _) (v := ?_) (by simp only [List.getElem?_toArray, List.getElem?_cons_succ, List.getElem?_cons_zero]; rfl) (by kernel_rfl) (by kernel_rfl) (by kernel_rfl) (by intro _ _ _ h; exact h) (Or.inl ⟨by rfl, fun W hSw => ?_⟩) hHeld ?_
          rotate_left 1
          · (clear hSw; first | (go_simp; done) | (go_simp; with_reducible rfl))
          try go_frame
          refine wpAnyH_take (i := 11) (oi := _) (v := ?_) (by simp only [List.getElem?_toArray, List.getElem?_cons_succ, List.getElem?_cons_zero]; rfl) (by kernel_rfl) (by kernel_rfl) (by kernel_rfl) (by intro _ _ _ h; exact h) (Or.inl ⟨by rfl, fun W hSw => ?_⟩) hHeld ?_
          rotate_left 1
          · (clear hSw; first | (go_simp; done) | (go_simp; with_reducible rfl))
          try go_frame
          refine wpAnyH_ready (rs := [12]) (by kernel_rfl) (by simp) ?_
          refine AllReadyH.cons (o := _) (by simp only [List.getElem?_toArray, List.getElem?_cons_succ, List.getElem?_cons_zero]; rfl) (fun KX hKX => ?_) AllReadyH.nil
          clear hHeld
          go_simp
          replace HS := HC6
          clear e1 e2 e3
          refine hKX.out _ _ HS.out.held (fun hHeld => ?_)
          clear hKX KX
          try go_frame
          refine wpAnyH_done (by kernel_rfl) ?_ _
          obtain ⟨W12, hW12⟩ : ∃ x, x = w6.setCell ⟨g, k * 9 + 1, none⟩ (.slice p6 n6 c6) := ⟨_, rfl⟩
          rw [← hW12] at HC6 HB6 ⊢
          have HBQ' : Hid (Below tb wo W12) := Lib.hid (HBQ.out.trans (((Below.refl _ _).drew).trans HB6.out))
          rw [← HVE.out] at HC6
          clear HVE hW12 hHeld HS HB6 hy HRD hgb hgl HCQ HBQ
          have HCQ := HC6
          have HBQ := HBQ'
          clear HC6 HBQ'
          have HS : Hid (CpC W12.drew tb vi vf vm rs6 c (3 * k + 1)) := Lib.hid (HCQ.out.below ((Below.refl _ _).drew))
          obtain ⟨g, cg, pp, cp, okp, hve, hgb, hgl, hy, hrd⟩ := HS.out.get1 hmm
          rw [hve] at HS
          have HVE := Lib.hid hve
          clear hve
          have HRD := Lib.hid hrd
          clear hrd
          go_upto_region 13 with fail
          refine wp_region_held_drew (S := fun W => W.cell? ⟨tb, 5, none⟩ = some (.slice (some ⟨g, 0, none⟩) c.methods.length cg)) (by kernel_rfl) HS.out.held (fun hHeld => ?_)
          refine wpAnyH_take (i := 0) (oi := _) (v := ?_) (by simp only [List.getElem?_toArray, List.getElem?_cons_zero]; rfl) (by kernel_rfl) (by kernel_rfl) (by kernel_rfl) (by intro _ _ _ h; exact h) (Or.inl ⟨by rfl, fun W hSw => ?_⟩) hHeld ?_
          rotate_left 1
          · (clear hSw; first | (go_simp; done) | (go_simp; with_reducible rfl))
          try go_frame
          refine wpAnyH_take (i := 1) (oi := _) (v := ?_) (by simp only [List.getElem?_toArray, List.getElem?_cons_succ, List.getElem?_cons_zero]; rfl) (by kernel_rfl) (by kernel_rfl) (by kernel_rfl) (by intro _ _ _ h; exact h) (Or.inl ⟨by rfl, fun W hSw => ?_⟩) hHeld ?_
          rotate_left 1
          · (try dsimp only at hSw); first | (go_simp; done) | (go_simp; with_reducible rfl)
          try go_frame
          refine wpAnyH_take (i := 2) (oi := _) (v := ?_) (by simp only [List.getElem?_toArray, List.getElem?_cons_succ, List.getElem?_cons_zero]; rfl) (by kernel_rfl) (by kernel_rfl) (by kernel_rfl) (by intro _ _ _ h; exact h) (Or.inl ⟨by rfl, fun W hSw => ?_⟩) hHeld ?_
          rotate_left 1
          · (clear hSw; first | (go_simp; done) | (go_simp; with_reducible rfl))
          try go_frame
          refine wpAnyH_take (i := 3) (oi := _) (v := ?_) (by simp only [List.getElem?_toArray, List.getElem?_cons_succ, List.getElem?_cons_zero]; rfl) (by kernel_rfl) (by kernel_rfl) (by kernel_rfl) (by intro _ _ _ h; exact h) (Or.inl ⟨by rfl, fun W hSw => ?_⟩) hHeld ?_
          rotate_left 1
          · (clear hSw; first | (go_simp; done) | (go_simp; with_reducible rfl))
          try go_frame
          refine wpAnyH_take (i := 4) (oi := _) (v := ?_) (by simp only [List.getElem?_toArray, List.getElem?_cons_succ, List.getElem?_cons_zero]; rfl) (by kernel_rfl) (by kernel_rfl) (by kernel_rfl) (by intro _ _ _ h; exact h) (Or.inl ⟨by rfl, fun W hSw => ?_⟩) hHeld ?_
          rotate_left 1
          · (try dsimp only at hSw); first | (go_simp; done) | (go_simp; with_reducible rfl)
          try go_frame
          refine wpAnyH_take (i := 5) (oi := _) (v := ?_) (by simp only [List.getElem?_toArray, List.getElem?_cons_succ, List.getElem?_cons_zero]; rfl) (by kernel_rfl) (by kernel_rfl) (by kernel_rfl) (by intro _ _ _ h; exact h) (Or.inl ⟨by rfl, fun W hSw => ?_⟩) hHeld ?_
          rotate_left 1
          · (clear hSw; first | (go_simp; done) | (go_simp; with_reducible rfl))
          try go_frame
          refine wpAnyH_take (i := 6) (oi := _) (v := ?_) (by simp only [List.getElem?_toArray, List.getElem?_cons_succ, List.getElem?_cons_zero]; rfl) (by kernel_rfl) (by kernel_rfl) (by kernel_rfl) (by intro _ _ _ h; exact h) (Or.inl ⟨by rfl, fun W hSw => ?_⟩) hHeld ?_
          rotate_left 1
          · (clear hSw; first | (go_simp; done) | (go_simp; with_reducible rfl))
          try go_frame
          refine wpAnyH_take (i := 7) (oi := _) (v := ?_) (by simp only [List.getElem?_toArray, List.getElem?_cons_succ, List.getElem?_cons_zero]; rfl) (by kernel_rfl) (by kernel_rfl) (by kernel_rfl) (by intro _ _ _ h; exact h) (Or.inl ⟨by rfl, fun W hSw => ?_⟩) hHeld ?_
          rotate_left 1
          · (clear hSw; first | (go_simp; done) | (go_simp; with_reducible rfl))
          try go_frame
          refine wpAnyH_ready (rs := [8]) (by kernel_rfl) (by simp) ?_
          refine AllReadyH.cons (o := _) (by simp only [List.getElem?_toArray, List.getElem?_cons_succ, List.getElem?_cons_zero]; rfl) (fun KX hKX => ?_) AllReadyH.nil
          clear hHeld
          go_simp
          refine hKX.out _ _ HS.out.held (fun hHeld => ?_)
          clear hKX KX
          try go_frame
          refine wpAnyH_ready (rs := [9]) (by kernel_rfl) (by simp) ?_
          refine AllReadyH.cons (o := _) (by simp only [List.getElem?_toArray, List.getElem?_cons_succ, List.getElem?_cons_zero]; rfl) (fun KX hKX => ?_) AllReadyH.nil
          clear hHeld
          refine step_copyX inf_ins shape_ins (by rfl) _ _ (by rfl) (by rfl) _ _ _ _ (by rfl) HRD.out HL1.out ?_
          intro p6 n6 c6 w6 ho6 hb6
          obtain ⟨e1, e2, ⟨o6, e3⟩, rs6, hC6, hB6⟩ := (HS.out.below hb6).put1 hmm rfl (okN.new ho6 HS.out.lt (fun g' e => by cases e; exact hgl)) rfl
          have HC6 := Lib.hid hC6
          have HB6 := Lib.hid ((show Below tb _ _ from hb6.mono (Nat.le_of_lt HS.out.lt)).trans (show Below tb _ _ from hB6.mono (Nat.le_succ _)))
          have HS6 := Lib.hid (HS.out.below hb6)
          clear hC6 hB6 ho6 hb6 HS
          have HS := HS6
          clear HS6
          refine hKX.out _ _ HS.out.held (fun hHeld => ?_)
          clear hKX KX
          try go_frame
          refine wpAnyH_take (i := 10) (oi := _) (v := ?_) (by simp only [List.getElem?_toArray, List.getElem?_cons_succ, List.getElem?_cons_zero]; rfl) (by kernel_rfl) (by kernel_rfl) (by kernel_rfl) (by intro _ _ _ h; exact h) (Or.inl ⟨by rfl, fun W hSw => ?_⟩) hHeld ?_
          rotate_left 1
          · (clear hSw; first | (go_simp; done) | (go_simp; with_reducible rfl))
          try go_frame
          refine wpAnyH_take (i := 11) (oi := _) (v := ?_) (by simp only [List.getElem?_toArray, List.getElem?_cons_succ, List.getElem?_cons_zero]; rfl) (by kernel_rfl) (by kernel_rfl) (by kernel_rfl) (by intro _ _ _ h; exact h) (Or.inl ⟨by rfl, fun W hSw => ?_⟩) hHeld ?_
          rotate_left 1
          · (clear hSw; first | (go_simp; done) | (go_simp; with_reducible rfl))
          try go_frame
          refine wpAnyH_ready (rs := [12]) (by kernel_rfl) (by simp) ?_
          refine AllReadyH.cons (o := _) (by simp only [List.getElem?_toArray, List.getElem?_cons_succ, List.getElem?_cons_zero]; rfl) (fun KX hKX => ?_) AllReadyH.nil
          clear hHeld
          go_simp
          replace HS := HC6
          clear e1 e2 e3
          refine hKX.out _ _ HS.out.held (fun hHeld => ?_)
          clear hKX KX
          try go_frame
          refine wpAnyH_done (by kernel_rfl) ?_ _
          obtain ⟨W13, hW13⟩ : ∃ x, x = w6.setCell ⟨g, k * 9 + 7, none⟩ (.slice p6 n6 c6) := ⟨_, rfl⟩
          rw [← hW13] at HC6 HB6 ⊢
          have HBQ' : Hid (Below tb wo W13) := Lib.hid (HBQ.out.trans (((Below.refl _ _).drew).trans HB6.out))
          rw [← HVE.out] at HC6
          clear HVE hW13 hHeld HS HB6 hy HRD hgb hgl HCQ HBQ
          have HCQ := HC6
          have HBQ := HBQ'
          clear HC6 HBQ'
          have HS : Hid (CpC W13.drew tb vi vf vm rs6 c (3 * k + 2)) := Lib.hid (HCQ.out.below ((Below.refl _ _).drew))
          obtain ⟨g, cg, pp, cp, okp, hve, hgb, hgl, hy, hrd⟩ := HS.out.get2 hmm
          rw [hve] at HS
          have HVE := Lib.hid hve
          clear hve
          have HRD := Lib.hid hrd
          clear hrd
          go_upto_region 14 with fail
          refine wp_region_held_drew (S := fun W => W.cell? ⟨tb, 5, none⟩ = some (.slice (some ⟨g, 0, none⟩) c.methods.length cg)) (by kernel_rfl) HS.out.held (fun hHeld => ?_)
          refine wpAnyH_take (i := 0) (oi := _) (v := ?_) (by simp only [List.getElem?_toArray, List.getElem?_cons_zero]; rfl) (by kernel_rfl) (by kernel_rfl) (by kernel_rfl) (by intro _ _ _ h; exact h) (Or.inl ⟨by rfl, fun W hSw => ?_⟩) hHeld ?_
          rotate_left 1
          · (clear hSw; first | (go_simp; done) | (go_simp; with_reducible rfl))
          try go_frame
          refine wpAnyH_take (i := 1) (oi := _) (v := ?_) (by simp only [List.getElem?_toArray, List.getElem?_cons_succ, List.getElem?_cons_zero]; rfl) (by kernel_rfl) (by kernel_rfl) (by kernel_rfl) (by intro _ _ _ h; exact h) (Or.inl ⟨by rfl, fun W hSw => ?_⟩) hHeld ?_
          rotate_left 1
          · (try dsimp only at hSw); first | (go_simp; done) | (go_simp; with_reducible rfl)
          try go_frame
          refine wpAnyH_take (i := 2) (oi := _) (v := ?_) (by simp only [List.getElem?_toArray, List.getElem?_cons_succ, List.getElem?_cons_zero]; rfl) (by kernel_rfl) (by kernel_rfl) (by kernel_rfl) (by intro _ _ _ h; exact h) (Or.inl ⟨by rfl, fun W hSw => ?_⟩) hHeld ?_
          rotate_left 1
          · (clear hSw; first | (go_simp; done) | (go_simp; with_reducible rfl))
          try go_frame
          refine wpAnyH_take (i := 3) (oi := _) (v := ?_) (by simp only [List.getElem?_toArray, List.getElem?_cons_succ, List.getElem?_cons_zero]; rfl) (by kernel_rfl) (by kernel_rfl) (by kernel_rfl) (by intro _ _ _ h; exact h) (Or.inl ⟨by rfl, fun W hSw => ?_⟩) hHeld ?_
          rotate_left 1
          · (clear hSw; first | (go_simp; done) | (go_simp; with_reducible rfl))
          try go_frame
          refine wpAnyH_take (i := 4) (oi := _) (v := ?_) (by simp only [List.getElem?_toArray, List.getElem?_cons_succ, List.getElem?_cons_zero]; rfl) (by kernel_rfl) (by kernel_rfl) (by kernel_rfl) (by intro _ _ _ h; exact h) (Or.inl ⟨by rfl, fun W hSw => ?_⟩) hHeld ?_
          rotate_left 1
          · (try dsimp only at hSw); first | (go_simp; done) | (go_simp; with_reducible rfl)
          try go_frame
          refine wpAnyH_take (i := 5) (oi := _) (v := ?_) (by simp only [List.getElem?_toArray, List.getElem?_cons_succ, List.getElem?_cons_zero]; rfl) (by kernel_rfl) (by kernel_rfl) (by kernel_rfl) (by intro _ _ _ h; exact h) (Or.inl ⟨by rfl, fun W hSw => ?_⟩) hHeld ?_
          rotate_left 1
          · (clear hSw; first | (go_simp; done) | (go_simp; with_reducible rfl))
          try go_frame
          refine wpAnyH_take (i := 6) (oi := _) (v := ?_) (by simp only [List.getElem?_toArray, List.getElem?_cons_succ, List.getElem?_cons_zero]; rfl) (by kernel_rfl) (by kernel_rfl) (by kernel_rfl) (by intro _ _ _ h; exact h) (Or.inl ⟨by rfl, fun W hSw => ?_⟩) hHeld ?_
          rotate_left 1
          · (clear hSw; first | (go_simp; done) | (go_simp; with_reducible rfl))
          try go_frame
          refine wpAnyH_take (i := 7) (oi := _) (v := ?_) (by simp only [List.getElem?_toArray, List.getElem?_cons_succ, List.getElem?_cons_zero]; rfl) (by kernel_rfl) (by kernel_rfl) (by kernel_rfl) (by intro _ _ _ h; exact h) (Or.inl ⟨by rfl, fun W hSw => ?_⟩) hHeld ?_
          rotate_left 1
          · (clear hSw; first | (go_simp; done) | (go_simp; with_reducible rfl))
          try go_frame
          refine wpAnyH_ready (rs := [8]) (by kernel_rfl) (by simp) ?_
          refine AllReadyH.cons (o := _) (by simp only [List.getElem?_toArray, List.getElem?_cons_succ, List.getElem?_cons_zero]; rfl) (fun KX hKX => ?_) AllReadyH.nil
          clear hHeld
          go_simp
          refine hKX.out _ _ HS.out.held (fun hHeld => ?_)
          clear hKX KX
          try go_frame
          refine wpAnyH_ready (rs := [9]) (by kernel_rfl) (by simp) ?_
          refine AllReadyH.cons (o := _) (by simp only [List.getElem?_toArray, List.getElem?_cons_succ, List.getElem?_cons_zero]; rfl) (fun KX hKX => ?_) AllReadyH.nil
          clear hHeld
          refine step_copyX inf_hnd shape_hnd (by rfl) _ _ (by rfl) (by rfl) _ _ _ _ (by rfl) HRD.out HL2.out ?_
          intro p6 n6 c6 w6 ho6 hb6
          obtain ⟨e1, e2, ⟨o6, e3⟩, rs6, hC6, hB6⟩ := (HS.out.below hb6).put2 hmm rfl (okN.new ho6 HS.out.lt (fun g' e => by cases e; exact hgl)) rfl
          have HC6 := Lib.hid hC6
          have HB6 := Lib.hid ((show Below tb _ _ from hb6.mono (Nat.le_of_lt HS.out.lt)).trans (show Below tb _ _ from hB6.mono (Nat.le_succ _)))
          have HS6 := Lib.hid (HS.out.below hb6)
          clear hC6 hB6 ho6 hb6 HS
          have HS := HS6
          clear HS6
          refine hKX.out _ _ HS.out.held (fun hHeld => ?_)
          clear hKX KX
          try go_frame
          refine wpAnyH_take (i := 10) (oi := _) (v := ?_) (by simp only [List.getElem?_toArray, List.getElem?_cons_succ, List.getElem?_cons_zero]; rfl) (by kernel_rfl) (by kernel_rfl) (by kernel_rfl) (by intro _ _ _ h; exact h) (Or.inl ⟨by rfl, fun W hSw => ?_⟩) hHeld ?_
          rotate_left 1
          · (clear hSw; first | (go_simp; done) | (go_simp; with_reducible rfl))
          try go_frame
          refine wpAnyH_take (i := 11) (oi := _) (v := ?_) (by simp only [List.getElem?_toArray, List.getElem?_cons_succ, List.getElem?_cons_zero]; rfl) (by kernel_rfl) (by kernel_rfl) (by kernel_rfl) (by intro _ _ _ h; exact h) (Or.inl ⟨by rfl, fun W hSw => ?_⟩) hHeld ?_
          rotate_left 1
          · (clear hSw; first | (go_simp; done) | (go_simp; with_reducible rfl))
          try go_frame
          refine wpAnyH_ready (rs := [12]) (by kernel_rfl) (by simp) ?_
          refine AllReadyH.cons (o := _) (by simp only [List.getElem?_toArray, List.getElem?_cons_succ, List.getElem?_cons_zero]; rfl) (fun KX hKX => ?_) AllReadyH.nil
          clear hHeld
          go_simp
          replace HS := HC6
          clear e1 e2 e3
          refine hKX.out _ _ HS.out.held (fun hHeld => ?_)
          clear hKX KX
          try go_frame
          refine wpAnyH_done (by kernel_rfl) ?_ _
          obtain ⟨W14, hW14⟩ : ∃ x, x = w6.setCell ⟨g, k * 9 + 8, none⟩ (.slice p6 n6 c6) := ⟨_, rfl⟩
          rw [← hW14] at HC6 HB6 ⊢
          have HBQ' : Hid (Below tb wo W14) := Lib.hid (HBQ.out.trans (((Below.refl _ _).drew).trans HB6.out))
          rw [← HVE.out] at HC6
          clear HVE hW14 hHeld HS HB6 hy HRD hgb hgl HCQ HBQ
          have HCQ := HC6
          have HBQ := HBQ'
          clear HC6 HBQ'
          go_wp2_with fail
          go_roundw
          case rel => exact ⟨k + 1, _, by go_num, by omega, by rw [show 3 * (k + 1) = 3 * k + 3 by omega]; exact HCQ, HBQ⟩
          case measure => simp [intOf]; omega
        · have hkl' : ¬ (k : Int) < (c.methods.length : Int) := by omega
          obtain rfl : k = c.methods.length := by omega
          obtain rfl := HVM.out
          obtain rfl := HVI.out
          obtain rfl := HVF.out
          have hcx := (boxN HCQ.out.1).2.1
          have w_0 := hcx 0 _ rfl
          have w_1 := hcx 1 _ rfl
          have w_2 := hcx 2 _ rfl
          have w_3 := hcx 3 _ rfl
          have w_4 := hcx 4 _ rfl
          simp only [Nat.zero_add] at w_0 w_1 w_2 w_3 w_4
          obtain ⟨rX, hrX⟩ : ∃ r : Raw 6, rawC r = [.string c.name, .string c.super, .slice p0 n0 c0, .int .i64 c.kind, .slice p1 n1 c1, .slice p2 c.methods.length c2] := ⟨⟨[.string c.name, .string c.super, .slice p0 n0 c0, .int .i64 c.kind, .slice p1 n1 c1, .slice p2 c.methods.length c2], rfl, by simp [Value.oneCell']⟩, rfl⟩
          have hq := HCQ.out.q
          have hQW := HQ.out.below (HTB.out ▸ HBQ.out)
          have hzt := HCQ.out.lt
          have hzo := HTB.out
          have hqa := HQ.out.lt
          obtain ⟨LT, hLT⟩ : ∃ x, x = (.cells #[.string c.name, .string c.super, .slice p0 n0 c0, .int .i64 c.kind, .slice p1 n1 c1, .slice p2 c.methods.length c2] 27 : Obj) := ⟨_, rfl⟩
          have bA := below_alR wr LT
          have HQA := Lib.hid (hQW.below bA)
          have HCA : Hid (cQ (tb + 1) (wr.alloc LT).heap.size (wr.alloc LT) (rawC rX) c) := Lib.hid (by
            rw [hrX]
            exact (hq.below bA).hi bA.size)
          have HSR := Lib.hid (rdX_lit1 rawC_len wr rX #[.string c.name, .string c.super, .slice p0 n0 c0, .int .i64 c.kind, .slice p1 n1 c1, .slice p2 c.methods.length c2] 27 (by rw [hrX]))
          rw [hLT] at HQA HCA
          have HBA : Hid (Below a wo (wr.alloc (.cells #[.string c.name, .string c.super, .slice p0 n0 c0, .int .i64 c.kind, .slice p1 n1 c1, .slice p2 c.methods.length c2] 27))) := Lib.hid (by rw [← hLT]; exact (HBQ.out.mono (by omega)).trans (bA.mono (by omega)))
          have hqv : ∀ g, va.ownBlock = some g → g < tb := fun g e => by have := (HQ.out.2.2.1.lt g e).2; omega
          have hqh : ∀ j, j < (A.take i).length → up j ≤ tb := fun j hj => by have := (HQ.out.2.2.2.2.2.1 j hj).2.1; omega
          obtain ⟨pva, cva, hva⟩ := HQ.out.2.2.len
          rw [hti] at hva
          subst hva
          have hrl2 : rs.length + 1 ≤ 1000000 := by have := HQ.out.2.2.2.1; omega
          have HRL := Lib.hid hrl2
          have HQV := Lib.hid hqv
          have HQH := Lib.hid hqh
          have HZ : Hid (tb < wr.heap.size ∧ wo.heap.size = tb ∧ a < wo.heap.size) := Lib.hid ⟨hzt, hzo, hqa⟩
          obtain ⟨a_l, a_0, a_z⟩ := hQW.cells
          clear hLT bA hq hQW hcx hzt hzo hqa hqv hqh hrl2 hi hti hrl
          go_wp2_with (at_builtin; refine wp_appM inf_cls (shape_raw 6) rfl _ _ rfl (a + 1) _ rs rfl HQA.out.2.2.1 _ 0 1 1 [rX] rfl HSR.out HRL.out (by have := HZ.out; simp; omega) ?_)
          intro v6 w6 ho6 hg6 hl6
          obtain ⟨e1, e2, e3, ⟨lo6, up6, hQ6⟩, hB6⟩ := HQA.out.app (L := tb + 1) (by have := HZ.out; simp; omega) (fun g e => Nat.lt_succ_of_lt (HQV.out g e)) (fun j hj => Nat.le_succ_of_le (HQH.out j hj)) (by have := HZ.out; omega) HCA.out ho6 hg6 (by simpa using hl6)
          obtain ⟨pq, nq, cq, hv6⟩ := ho6.slice
          subst hv6
          rw [← HTK.out] at hQ6
          have HQ6 := Lib.hid hQ6
          have HB6 := Lib.hid ((HB.out.trans HBA.out).trans hB6)
          clear hQ6 hB6 ho6 hg6 hl6 w_0 w_1 w_2 w_3 w_4 hheld a_l a_0 a_z
          go_wp2_with fail
          obtain ⟨w7, hw7⟩ : ∃ z, z = w6.setCell ⟨a, 0, none⟩ (.slice pq nq cq) := ⟨_, rfl⟩
          rw [← hw7] at HQ6 HB6 ⊢
          clear hw7 e1 e2 e3
          go_roundw
          case rel => exact ⟨i + 1, _, _, _, _, by go_num, by omega, HQ6, HB6⟩
          case measure => simp [intOf]; omega
    · have hlt' : ¬ (i : Int) < (A.length : Int) := by omega
      obtain rfl : i = A.length := by omega
      rw [List.take_length] at HQ
      obtain ⟨pv, cv, hv⟩ := HQ.out.2.2.len
      subst hv
      go_wp2_with fail
      have k1 : Kpt [rb] wr (wr.setCell ⟨rb, 0, none⟩ (.slice pv A.length cv)) := Kpt.set _ _ _ _ _ (by simp)
      refine bodyPost_ret (v := .agg #[.slice pv A.length cv]) (by simp [*, results, Tryz.results31, go_sem]) rfl ?_
      have hn := HN.out
      have hsw := HB0.out.size
      have hsr := HB.out.size
      have hra : ∀ g, (Value.slice pv A.length cv).ownBlock = some g → a + 1 ≤ g := fun g e => (HQ.out.2.2.1.lt g e).1
      exact ⟨_, rfl, ⟨rs, lo, up, HQ.out.2.2.put (B := a + 1) (B' := w.heap.size) k1 (fun b hb => by simp; omega) (by omega)⟩, (HB0.out.trans (HB.out.mono (by omega))).trans (k1.below (fun x hx => by simp at hx; omega) (by omega))⟩
end Go.Proofs.YtlmpnmnfloeoiaaGreat.R
