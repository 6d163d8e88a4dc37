/- Texts that the proof is made of, joined. No condition. -/
import Derived.Test.YtlmpnmnfloeoiaaGreatC1016
import Derived.Test.YtlmpnmnfloeoiaaGreatC102
import Derived.Test.YtlmpnmnfloeoiaaGreatC109
import Derived.Test.YtlmpnmnfloeoiaaGreatC104
import Derived.BigRegion
import Derived.Deep.RegionLaw
import Derived.Deep.RegionHeld3
import Derived.StillTailTactics
import Derived.Lib.SliceRun
import Derived.Test.YtlmpnmnfloeoiaaGreatC10H
set_option linter.unusedVariables false
set_option linter.unusedSimpArgs false
set_option maxRecDepth 100000
set_option maxHeartbeats 16000000
namespace Go.Proofs.YtlmpnmnfloeoiaaGreat.R
open Go.RowKit Go.Proofs.YtlmpnmnfloeoiaaGreat.D Go.Proofs.YtlmpnmnfloeoiaaGreat.O Go.Proofs.YtlmpnmnfloeoiaaGreat.A
theorem keep_pre : ∀ (m K : List Cls), ∃ t, m.foldl keep1 K = K ++ t
  | [], K => ⟨[], by simp⟩
  | c :: m, K => by
    obtain ⟨t, ht⟩ := keep_pre m (keep1 K c)
    rw [List.foldl_cons, ht]
    unfold keep1
    split
    · exact ⟨t, rfl⟩
    · exact ⟨c :: t, by simp⟩
def GoodP (A : List Cls) (i : Nat) : Prop := ((A.take i).map (·.name)).Nodup ∧ ∀ c ∈ A.take i, bltS c.name = none
theorem GoodP.next {A : List Cls} {i : Nat} {c : Cls} (h : GoodP A i) (hc : A[i]? = some c) (h1 : c.name ∉ (A.take i).map (·.name)) (h2 : bltS c.name = none) : GoodP A (i + 1) := by
  unfold GoodP
  rw [take_snoc hc, List.map_append]
  refine ⟨?_, fun d hd => ?_⟩
  · rw [List.nodup_append]
    exact ⟨h.1, by simp, fun y hy z hz e => h1 (by simp only [List.map_cons, List.map_nil, List.mem_singleton] at hz; rw [hz] at e; rw [← e]; exact hy)⟩
  · rcases List.mem_append.1 hd with hd | hd
    · exact h.2 d hd
    · rw [List.mem_singleton.1 hd]; exact h2
theorem keep_good {A : List Cls} : ∀ {i : Nat}, GoodP A i → i ≤ A.length → keepL (A.take i) = A.take i
  | 0, _, _ => rfl
  | i + 1, h, hi => by
    obtain ⟨c, hc⟩ : ∃ c, A[i]? = some c := ⟨_, List.getElem?_eq_getElem hi⟩
    have e := take_snoc hc
    have h1 := h.1
    rw [e, List.map_append, List.nodup_append] at h1
    have hp : GoodP A i := ⟨h1.1, fun d hd => h.2 d (by rw [e]; exact List.mem_append_left _ hd)⟩
    have hn : c.name ∉ (A.take i).map (·.name) := fun hm => h1.2.2 _ hm c.name (by simp) rfl
    have hb := h.2 c (by rw [e]; simp)
    rw [keep_take hc, keep_good hp (by omega), e]
    unfold keep1
    rw [if_neg]
    rw [known_sk, find_out hb hn]
    simp
theorem good_find {A : List Cls} {i : Nat} {c : Cls} (h : GoodP A (i + 1)) (hc : A[i]? = some c) : clsK (keepL A) c.name = c ∧ c ∈ keepL A ∧ knownT ((keepL A).map skOf) c.name = true := by
  have hi : i < A.length := (List.getElem?_eq_some_iff.1 hc).1
  have e := take_snoc hc
  have hk : keepL A = (A.take (i + 1)) ++ ((A.drop (i + 1)).foldl keep1 (A.take (i + 1))).drop (i + 1) := by
    have h1 : keepL A = (A.drop (i + 1)).foldl keep1 (keepL (A.take (i + 1))) := by
      unfold keepL
      rw [← List.foldl_append, List.take_append_drop]
    rw [h1, keep_good h (by omega)]
    obtain ⟨t, ht⟩ := keep_pre (A.drop (i + 1)) (A.take (i + 1))
    rw [ht, List.drop_append, List.length_take]
    have : min (i + 1) A.length = i + 1 := by omega
    rw [this]
    simp
  have hb := h.2 c (by rw [e]; simp)
  have h1 := h.1
  rw [e, List.map_append, List.nodup_append] at h1
  have hn : c.name ∉ (A.take i).map (·.name) := fun hm => h1.2.2 _ hm c.name (by simp) rfl
  have hf : (keepL A).find? (fun d => decide (d.name = c.name)) = some c := by
    rw [hk, e, List.append_assoc, List.find?_append]
    have h0 : (A.take i).find? (fun d => decide (d.name = c.name)) = none := by
      rw [List.find?_eq_none]
      intro d hd
      simp only [decide_eq_true_eq]
      exact fun e => hn (by rw [← e]; exact List.mem_map.2 ⟨d, hd, rfl⟩)
    rw [h0]
    simp
  have hfc : findC (keepL A) c.name = some c := by
    unfold findC bltC
    rw [hb]
    exact hf
  refine ⟨by unfold clsK; rw [hfc]; rfl, List.mem_of_find?_eq_some hf, by rw [known_sk, hfc]; rfl⟩
def CkA (A : List Cls) : Prop := SzT (A.map skOf) ∧ (∀ c ∈ A, FewC c) ∧ AskH (keepL A) ∧ (∀ c ∈ A, ∀ f ∈ c.fields, f.1.size ≤ maxLen ∧ f.2.1.2.size ≤ maxLen) ∧ ∀ c ∈ A, (missK (keepL A) c.name).Nodup
theorem check_at {A : List Cls} {i : Nat} {c : Cls} (hc : A[i]? = some c) : checkF (keepL A) ((A.take i).map (·.name)) i (A.drop i) = if (S.hasB ((A.take i).map (·.name)) c.name || (bltS c.name).isSome) = true then ((i : Int), 23) else if wrongK (keepL A) c = 0 then checkF (keepL A) ((A.take (i + 1)).map (·.name)) (i + 1) (A.drop (i + 1)) else ((i : Int), wrongK (keepL A) c) := by
  obtain ⟨hi, rfl⟩ := List.getElem?_eq_some_iff.1 hc
  rw [List.drop_eq_getElem_cons hi, take_snoc hc, List.map_append]
  rfl
set_option maxHeartbeats 8000000 in
set_option maxRecDepth 100000 in
theorem check_h (A : List Cls) (p : Option Addr) (cap : Nat) (ok : Nat → Prop) (w : World) (hr : RdX 6 cP ok w (.slice p A.length cap) A) (ha : CkA A) :
    Calls Tryz.prog 8 #[.agg #[.slice p A.length cap]] w fun e w' => e = .returned (.tuple #[.int .i64 (checkK A).1, .int .i64 (checkK A).2]) ∧ Below w.heap.size w w' := by
  have hA : A.length ≤ 1000 := by have := ha.1.1; rwa [List.length_map] at this
  have HR := Lib.hid hr
  have HA := Lib.hid ha
  have hrN : RdX 6 cP (fun b => b < w.heap.size) w (.slice p A.length cap) A := hr.step cP.grow (fun _ _ hl => hl) (fun _ _ _ => rfl) (Nat.le_refl _)
  have HRN := Lib.hid hrN
  have HCK : Hid (checkK A = checkF (keepL A) ((A.take 0).map (·.name)) 0 (A.drop 0)) := Lib.hid rfl
  have hmm := @run_makeMap Tryz.prog
  clear hr ha hrN
  have hb0 := below_alR w (.cells #[.slice p A.length cap] 30)
  have hX0 := heap_alloc_new w (.cells #[.slice p A.length cap] 30)
  go_enter Tryz.func8, Tryz.ntmps8
  go_upto_region 1 with fail
  obtain ⟨w0, hw0⟩ : ∃ y, y = w.alloc (.cells #[.slice p A.length cap] 30) := ⟨_, rfl⟩
  rw [← hw0] at hb0 hX0 ⊢
  clear hw0
  obtain ⟨ab, hab⟩ : ∃ y, w.heap.size = y := ⟨_, rfl⟩
  rw [hab] at hX0 ⊢
  have hal : ab < w0.heap.size := (Array.getElem?_eq_some_iff.1 hX0).1
  have a0 : w0.cell? ⟨ab, 0, none⟩ = some (.slice p A.length cap) := by simp [World.cell?, hX0]
  have HX0 := Lib.hid hX0
  have HB0 := Lib.hid hb0
  clear hX0 hb0 hab
  go_wp2_with fail
  refine (New_t A p cap _ w0 (HRN.out.any cP.grow HB0.out) HA.out.1 HA.out.2.1).mono ?_
  rintro e w1 ⟨tb, mt, vs, rfl, ht1, hb1⟩
  have HT1 := Lib.hid ht1
  have HB1 := Lib.hid (HB0.out.trans (hb1.mono HB0.out.size))
  have HX1 := Lib.hid ((hb1.block _ hal).trans HX0.out)
  clear ht1 hb1 a0
  go_wp2_with fail
  refine (newLook_h _ tb mt vs (keepL A) w1 HT1.out).mono ?_
  rintro e w2 ⟨lb, fb, rfl, hk2, hb2⟩
  have hNl : w1.heap.size ≤ lb := hk2.2.2.1
  have hNf : w1.heap.size ≤ fb := hk2.2.2.2.1
  have hw01 : w.heap.size ≤ w1.heap.size := HB1.out.size
  have HB2 := Lib.hid (HB1.out.trans (hb2.mono HB1.out.size))
  have HX2 := Lib.hid ((hb2.block _ (Array.getElem?_eq_some_iff.1 HX1.out).1).trans HX1.out)
  have hbm := below_alR w2 (.map #[] 0)
  have HK3 := Lib.hid (hk2.below hbm)
  have hfl : fb < w2.heap.size := hk2.cells.2.1
  have hll : lb < w2.heap.size := hk2.cells.1
  have HU3 : Hid (Us (w2.alloc (.map #[] 0)) w2.heap.size ((A.take 0).map (·.name))) := Lib.hid (S.Mv.made w2)
  have HB3 := Lib.hid (HB2.out.trans (hbm.mono HB2.out.size))
  have hX3 := (hbm.block _ (Array.getElem?_eq_some_iff.1 HX2.out).1).trans HX2.out
  obtain ⟨N, hN⟩ : ∃ y, w1.heap.size = y := ⟨_, rfl⟩
  have hNw : w.heap.size ≤ N := by omega
  rw [hN] at HK3 hNl hNf
  clear hk2 hb2 hbm HT1 HX1 HX2 hN HB1
  go_upto_region 3 with fail
  obtain ⟨hb, hhb⟩ : ∃ y, w2.heap.size = y := ⟨_, rfl⟩
  obtain ⟨w3, hw3⟩ : ∃ y, y = w2.alloc (.map #[] 0) := ⟨_, rfl⟩
  rw [← hw3] at HK3 HU3 HB3 hX3 ⊢
  rw [hhb] at HU3 ⊢
  have HNE : Hid (hb ≠ fb ∧ hb ≠ lb ∧ N ≤ hb ∧ w.heap.size ≤ hb ∧ w.heap.size ≤ fb) := Lib.hid (by omega)
  have a0 : w3.cell? ⟨ab, 0, none⟩ = some (.slice p A.length cap) := by simp [World.cell?, hX3]
  clear hw3 hhb hX3 hmm HB2 hfl hll hal hw01
  go_wp2_with fail
  clear a0
  go_loopw [18] (fun x wr => ∃ i : Nat, x = .int .i64 (i : Int) ∧ i ≤ A.length ∧ Hid (LkW wr N lb fb tb mt vs (keepL A)) ∧ Hid (Us wr hb ((A.take i).map (·.name))) ∧ Hid (Below w.heap.size w wr) ∧ Hid (checkK A = checkF (keepL A) ((A.take i).map (·.name)) i (A.drop i) ∧ GoodP A i)) (fun x _ => A.length - (intOf x).toNat)
  case atStart => exact ⟨0, rfl, by omega, HK3, HU3, HB3, Lib.hid ⟨HCK.out, by simp, fun c hc => by simp at hc⟩⟩
  case round =>
    clear HK3 HU3 HB3 HCK
    obtain ⟨i, rfl, hi, HK, HU, HB, HG⟩ := hrel
    by_cases hlt : i < A.length
    · obtain ⟨c, hc⟩ : ∃ c, A[i]? = some c := ⟨_, List.getElem?_eq_getElem hlt⟩
      have hlt' : (i : Int) < (A.length : Int) := by omega
      have i0 : (0 : Int) ≤ (i : Int) := by omega
      have hne : A ≠ [] := by rintro rfl; simp at hlt
      obtain ⟨b, off, rfl, -, -, hBb, hbl, hcells⟩ := (HRN.out.any cP.grow HB.out).place hne
      obtain ⟨l, ⟨vi, vf, vm, rfl, k1, k2, k3⟩, hcell⟩ := hcells _ _ hc
      obtain ⟨pi, ci, rfl, -⟩ := k1.len
      obtain ⟨pf, cf, rfl, -⟩ := k2.len
      obtain ⟨pm, cm, rfl, -⟩ := k3.len
      obtain ⟨y0, y1, y2, y3, y4, y5⟩ := hcell.six
      have bne : b ≠ wr.heap.size := by omega
      have hzr := HB.out.size
      have hmem := List.mem_of_getElem? hc
      have hnm : c.name.size ≤ maxLen := (HA.out.1.2 _ (List.mem_map.2 ⟨c, hmem, rfl⟩)).1
      have HCR : Hid (ClR wr N c pi pf pm ci cf cm) := Lib.hid ⟨k1.step (sP.grow _) (fun b h _ => Nat.lt_of_lt_of_le h hNw) (fun _ _ _ => rfl) (Nat.le_refl _), k2.step (sP.grow _) (fun b h _ => Nat.lt_of_lt_of_le h hNw) (fun _ _ _ => rfl) (Nat.le_refl _), k3.step mP.grow (fun b h _ => Nat.lt_of_lt_of_le h hNw) (fun _ _ _ => rfl) (Nat.le_refl _)⟩
      have HC := Lib.hid hc
      have HMEM := Lib.hid hmem
      have HAT := Lib.hid (check_at hc)
      have hsl : ((A.take i).map (·.name)).length ≤ 1000 := by rw [List.length_map, List.length_take]; omega
      have HTS : Hid ((A.take (i + 1)).map (·.name) = (A.take i).map (·.name) ++ [c.name]) := Lib.hid (by rw [take_snoc hc, List.map_append]; rfl)
      have HGN := Lib.hid (fun h1 h2 => HG.out.2.next hc h1 h2)
      have HGE : Hid (checkK A = checkF (keepL A) ((A.take i).map (·.name)) i (A.drop i)) := Lib.hid HG.out.1
      obtain ⟨sn, hsn⟩ : ∃ y, (A.take i).map (·.name) = y := ⟨_, rfl⟩
      rw [hsn] at HU HAT hsl HTS HGN HGE
      obtain ⟨kz, hkz⟩ : ∃ y : S.Kpt [] wr (wr.alloc (.cells #[.string c.name, .string c.super, .slice pi c.ifaces.length ci, .int .i64 c.kind, .slice pf c.fields.length cf, .slice pm c.methods.length cm] 27)), y = S.Kpt.alloc _ _ _ := ⟨_, rfl⟩
      clear hcells hcell hne hBb hc hmem hsn k1 k2 k3 hkz HG
      by_cases hin : c.name ∈ sn
      · obtain ⟨u, hat, -⟩ := (HU.out.kpt kz (by simp)).at hin
        have HRS : Hid (checkK A = ((i : Int), 23)) := Lib.hid (by rw [HGE.out, HAT.out, S.hasB_in hin]; rfl)
        clear hin
        go_wp2_with (at_lookup; refine S.wp_look_at kdS Tryz.underlying59 () (S.zero0 _) rfl _ _ rfl hb rfl c.name u hat hnm rfl ?_)
        go_ret2
        exact ⟨by rw [HRS.out]; rfl, (HB.out.alloc HB.out.size _).alloc (by simp; omega) _⟩
      · have hno := (HU.out.kpt kz (by simp)).no hnm hin
        have HNI := Lib.hid hin
        clear hin
        go_upto_region 7 with (at_lookup; refine S.wp_look_no kdS Tryz.underlying59 () (S.zero0 _) rfl _ _ rfl hb rfl c.name hno hnm rfl ?_)
        have hb4 : Below wr.heap.size wr ((wr.alloc (.cells #[.string c.name, .string c.super, .slice pi c.ifaces.length ci, .int .i64 c.kind, .slice pf c.fields.length cf, .slice pm c.methods.length cm] 27)).alloc (.cells #[] 60)) := ((Below.refl _ wr).alloc (Nat.le_refl _) _).alloc (by simp) _
        have hX4 : ((wr.alloc (.cells #[.string c.name, .string c.super, .slice pi c.ifaces.length ci, .int .i64 c.kind, .slice pf c.fields.length cf, .slice pm c.methods.length cm] 27)).alloc (.cells #[] 60)).heap[wr.heap.size]? = some (.cells #[.string c.name, .string c.super, .slice pi c.ifaces.length ci, .int .i64 c.kind, .slice pf c.fields.length cf, .slice pm c.methods.length cm] 27 (0, 0)) := ((below_alR _ _).block _ (by rw [World.size_alloc]; omega)).trans (heap_alloc_new wr _)
        obtain ⟨w4, hw4⟩ : ∃ y, y = (wr.alloc (.cells #[.string c.name, .string c.super, .slice pi c.ifaces.length ci, .int .i64 c.kind, .slice pf c.fields.length cf, .slice pm c.methods.length cm] 27)).alloc (.cells #[] 60) := ⟨_, rfl⟩
        rw [← hw4] at hb4 hX4 ⊢
        clear hw4 hno kz y0 y1 y2 y3 y4 y5 bne
        have HK4 := Lib.hid (HK.out.below hb4)
        have HU4 := Lib.hid (HU.out.kpt (S.Kpt.of_below (S := []) hb4) (by simp))
        have HB4 := Lib.hid (HB.out.trans (hb4.mono HB.out.size))
        have HCR4 := Lib.hid (HCR.out.kpt (S.Kpt.of_below (S := []) hb4) (fun x hx => by cases hx))
        obtain ⟨tc, htc⟩ : ∃ y, wr.heap.size = y := ⟨_, rfl⟩
        have HTN : Hid (tc ≠ hb ∧ tc ≠ fb ∧ hb < wr.heap.size) := Lib.hid (by have h1 := HU.out.lt; have h2 := HK.out.cells.2.1; omega)
        rw [htc] at hX4 ⊢
        have HX4 := Lib.hid hX4
        clear hX4 hb4 htc HK HU HB HCR
        obtain ⟨tl, x0, x1, x2, x3, x4, x5⟩ := cells6 HX4.out
        have hbt := builtin_t c.name w4
        cases hbl2 : bltS c.name with
        | some s =>
          rw [hbl2] at hbt
          have HRS : Hid (checkK A = ((i : Int), 23)) := Lib.hid (by rw [HGE.out, HAT.out, hbl2]; simp)
          have HBT := Lib.hid hbt
          clear hbl2 hbt
          go_wp2_with (go_at_call 16; refine HBT.out.mono ?_; rintro e w5 ⟨rfl, hb5⟩; have HB5 := Lib.hid (HB4.out.trans (hb5.mono HB4.out.size)); clear hb5)
          go_ret2
          exact ⟨by rw [HRS.out]; rfl, HB5.out⟩
        | none =>
          rw [hbl2] at hbt
          have HBT := Lib.hid hbt
          have hg := HGN.out HNI.out hbl2
          have hfc := good_find hg HC.out
          have HG2 := Lib.hid hg
          have HAC : Hid (AskC (keepL A) c) := Lib.hid ⟨hfc.1, hfc.2.1, hfc.2.2, HA.out.2.2.2.1 c HMEM.out⟩
          have HA1 : Hid (checkK A = if wrongK (keepL A) c = 0 then checkF (keepL A) ((A.take (i + 1)).map (·.name)) (i + 1) (A.drop (i + 1)) else ((i : Int), wrongK (keepL A) c)) := Lib.hid (by
            have e0 : (S.hasB sn c.name || (bltS c.name).isSome) = false := by rw [hbl2, S.hasB_out HNI.out]; rfl
            rw [HGE.out, HAT.out, e0]
            exact if_neg (by simp))
          have HAD : Hid (S.addS sn c.name = (A.take (i + 1)).map (·.name)) := Lib.hid (by rw [S.addS_out HNI.out, HTS.out])
          clear hbl2 hbt hg hfc HGN HGE HAT HTS HC
          go_wp2_with first
            | (go_at_call 16; refine HBT.out.mono ?_; rintro e w5 ⟨rfl, hb5⟩; have HB5 := Lib.hid (HB4.out.trans (hb5.mono HB4.out.size)); have HK5 := Lib.hid (HK4.out.below hb5); have HU5 := Lib.hid (HU4.out.kpt (S.Kpt.of_below (S := []) hb5) (by simp)); have HCR5 := Lib.hid (HCR4.out.kpt (S.Kpt.of_below (S := []) hb5) (fun x hx => by cases hx)); have HX5 := Lib.hid ((hb5.block _ tl).trans HX4.out); clear hb5 tl x0 x1 x2 x3 x4 x5; obtain ⟨tl, x0, x1, x2, x3, x4, x5⟩ := cells6 HX5.out)
            | (at_mapUpdate; refine S.wp_storeV kdS Tryz.underlying59 rfl _ _ _ rfl hb sn rfl HU5.out c.name () hnm rfl rfl trivial (by omega) ?_; intro w6 hm6 hg6; rw [HAD.out] at hm6; have k6 : S.Kpt [hb] w5 w6 := .of_grown hg6 (fun g e => by cases e; exact .inl (by simp)); have HU6 := Lib.hid hm6; have nsg := (by obtain ⟨es, k, h2⟩ := HU5.out.map; exact not_sg h2 (fun _ _ e => by cases e) : ¬ okSg w5 hb); have HK6 := Lib.hid (HK5.out.kpt k6 (fun x hx => by rw [List.mem_singleton.1 hx]; exact ⟨HNE.out.2.2.1, HNE.out.2.1, HNE.out.1, nsg⟩)); have HB6 := Lib.hid (HB5.out.trans (k6.below (fun x hx => by rw [List.mem_singleton.1 hx]; exact HNE.out.2.2.2.1) HB5.out.size)); have HCR6 := Lib.hid (HCR5.out.kpt k6 (fun x hx => by rw [List.mem_singleton.1 hx]; exact HNE.out.2.2.1)); have HX6 := Lib.hid (k6.block HX5.out (by simpa using HTN.out.1)); clear hm6 hg6 k6 nsg tl x0 x1 x2 x3 x4 x5; obtain ⟨tl, x0, x1, x2, x3, x4, x5⟩ := cells6 HX6.out)
          refine (wrong_h N lb fb tb mt vs (keepL A) c pi pf pm ci cf cm w6 HK6.out HA.out.2.2.1 HAC.out HCR6.out (HA.out.2.2.2.2 c HMEM.out)).mono ?_
          rintro e w7 ⟨rfl, hk7, hp7⟩
          have HK7 := Lib.hid hk7
          have HU7 := Lib.hid (HU6.out.kpt hp7 (by simpa using HNE.out.1))
          have HB7 := Lib.hid (HB6.out.trans (hp7.below (fun x hx => by rw [List.mem_singleton.1 hx]; exact HNE.out.2.2.2.2) HB6.out.size))
          obtain ⟨q, hq⟩ : ∃ y, wrongK (keepL A) c = y := ⟨_, rfl⟩
          rw [hq] at HA1 ⊢
          clear hk7 hp7 hq tl x0 x1 x2 x3 x4 x5 HK4 HK5 HK6 HU4 HU5 HU6 HB4 HB5 HB6 HX4 HX5 HX6 HCR4 HCR5 HCR6
          by_cases h0 : q = 0
          · subst h0
            have HA2 : Hid (checkK A = checkF (keepL A) ((A.take (i + 1)).map (·.name)) (i + 1) (A.drop (i + 1))) := Lib.hid (by rw [HA1.out, if_pos rfl])
            go_wp2_with fail
            go_roundw
            case rel => exact ⟨i + 1, by go_num, by omega, HK7, HU7, HB7, Lib.hid ⟨HA2.out, HG2.out⟩⟩
            case measure => simp [intOf]; omega
          · have HRS : Hid (checkK A = ((i : Int), q)) := Lib.hid (by rw [HA1.out, if_neg h0])
            have h0a : (q != (0 : Int)) = true := by simpa using h0
            have h0b : decide (q = (0 : Int)) = false := by simpa using h0
            go_wp2_with fail
            go_ret2
            exact ⟨by rw [HRS.out]; rfl, HB7.out⟩
    · have hlt' : ¬ (i : Int) < (A.length : Int) := by omega
      obtain rfl : i = A.length := by omega
      have HRS : Hid (checkK A = (0, 0)) := Lib.hid (by rw [HG.out.1, List.drop_length]; rfl)
      go_wp2_with fail
      go_ret2
      exact ⟨by rw [HRS.out]; rfl, HB.out⟩
set_option maxHeartbeats 1000000 in
set_option maxRecDepth 100000 in
theorem Missing_h (ok : Nat → Prop) (tb mt : Nat) (vs : Value) (K : List Cls) (n : ByteArray) (w : World) (h : TrW w ok tb mt vs K) (hn : n.size ≤ maxLen) (ha : AskH K) (hd : (missK K n).Nodup) :
    Calls Tryz.prog 10 #[.pointer (some ⟨tb, 0, none⟩), .string n] w fun e w' => ∃ v R, e = .returned v ∧ S.OwnC S.cS 9 w' w.heap.size v R ∧ S.Srt S.ltS R ∧ (∀ x, x ∈ R ↔ x ∈ missK K n) ∧ Below w.heap.size w w' := by
  have HT := Lib.hid h
  have HA := Lib.hid ha
  have HD := Lib.hid hd
  clear h ha hd
  go_enter Tryz.func10, Tryz.ntmps10
  go_wp2_with fail
  refine (newLook_h _ tb mt vs K w HT.out).mono ?_
  rintro e w1 ⟨lb, fb, rfl, hk1, hb1⟩
  have HK1 := Lib.hid hk1
  have HB1 := Lib.hid hb1
  have hNf : w.heap.size ≤ fb := hk1.2.2.2.1
  clear hk1 hb1
  go_wp2_with fail
  refine (missing_h w.heap.size lb fb tb mt vs K n w1 HK1.out hn HA.out HD.out).mono ?_
  rintro e w2 ⟨v, R, rfl, ho, hs, hm, -, hp⟩
  have HO := Lib.hid (ho.mono HB1.out.size)
  have HS := Lib.hid hs
  have HM := Lib.hid hm
  have HB2 := Lib.hid (HB1.out.trans (hp.below (fun x hx => by rw [List.mem_singleton.1 hx]; exact hNf) HB1.out.size))
  clear ho hs hm hp
  go_wp2_with fail
  go_ret
  exact ⟨v, R, rfl, HO.out, HS.out, HM.out, HB2.out⟩
end Go.Proofs.YtlmpnmnfloeoiaaGreat.R
namespace Go.Proofs.YtlmpnmnfloeoiaaGreat.R
open Go.RowKit Go.Proofs.YtlmpnmnfloeoiaaGreat.D Go.Proofs.YtlmpnmnfloeoiaaGreat.O Go.Proofs.YtlmpnmnfloeoiaaGreat.A
def FewM (m : Mth) : Prop := m.params.length ≤ 1000000 ∧ m.code.length ≤ 1000000 ∧ m.hs.length ≤ 1000000
theorem few_cls {c : Cls} (h1 : c.ifaces.length ≤ 100) (h2 : c.fields.length ≤ 100) (h3 : c.methods.length ≤ 100) (h4 : ∀ m ∈ c.methods, FewM m) : FewC c := ⟨Nat.le_trans h1 (by decide), Nat.le_trans h2 (by decide), Nat.le_trans h3 (by decide), h4⟩
theorem keep_few {l : List Cls} (h : ∀ c ∈ l, FewC c) : ∀ c ∈ keepL l, FewC c := fun c hc => h c (keepL_mem l c hc)
theorem sz_small {b : ByteArray} (h : b.size ≤ 1000) : b.size ≤ maxLen := Nat.le_trans h (by unfold maxLen; omega)
end Go.Proofs.YtlmpnmnfloeoiaaGreat.R
namespace Go.Proofs.YtlmpnmnfloeoiaaGreat.R
open Go.RowKit Go.Proofs.YtlmpnmnfloeoiaaGreat.D Go.Proofs.YtlmpnmnfloeoiaaGreat.O Go.Proofs.YtlmpnmnfloeoiaaGreat.A
theorem keepL_sub (l : List Cls) : (keepL l).Sublist l := S.rev_ind (P := fun l => (keepL l).Sublist l) (List.Sublist.refl _) (fun l c h => by
  rw [keepL_snoc]
  unfold keep1
  split
  · exact h.trans (List.sublist_append_left _ _)
  · exact h.append (List.Sublist.refl _)) l
end Go.Proofs.YtlmpnmnfloeoiaaGreat.R
namespace Go.Proofs.YtlmpnmnfloeoiaaGreat.R
open Go.RowKit Go.Proofs.YtlmpnmnfloeoiaaGreat.D Go.Proofs.YtlmpnmnfloeoiaaGreat.O Go.Proofs.YtlmpnmnfloeoiaaGreat.A
def DelI (xs cur : List Fld) (i j : Nat) : Prop := cur.length = xs.length ∧ i < j ∧ cur.take i = (xs.take j).filter instF ∧ ∀ m, j ≤ m → cur[m]? = xs[m]?
theorem DelI.keep {xs cur : List Fld} {i j : Nat} {x : Fld} (h : DelI xs cur i j) (hx : xs[j]? = some x) (hp : x.2.2 = false) : DelI xs (cur.set i x) (i + 1) (j + 1) := by
  obtain ⟨h1, h2, h3, h4⟩ := h
  obtain ⟨hj, rfl⟩ := List.getElem?_eq_some_iff.1 hx
  refine ⟨by simp [h1], by omega, ?_, fun m hm => ?_⟩
  · rw [List.take_succ_eq_append_getElem hj, List.filter_append, ← h3, List.take_succ_eq_append_getElem (by simp; omega), List.take_set_of_le (Nat.le_refl _)]
    simp [instF, hp]
  · rw [List.getElem?_set_ne (by omega)]
    exact h4 m (by omega)
end Go.Proofs.YtlmpnmnfloeoiaaGreat.R
