/- SetTells' walk. -/
import Derived.Test.YtejjmbfbjagifaaSKnown
import Derived.Test.YtejjmbfbjagifaaSSorted
import Derived.Laws.BitsLemmas
namespace Go.Proofs.Ytejjmbfbjagifaa.S
open Go.RowKit Go.Maps

theorem and3 (n : Int) : bits .and .i64 n 3 = n % 4 := by
  have hm : (BitVec.ofInt 64 3).toNat = 2 ^ 2 - 1 := by decide
  have e : (BitVec.ofInt 64 n &&& BitVec.ofInt 64 3).toNat = (n % ((2 ^ 64 : Nat) : Int)).toNat % 2 ^ 2 := by
    rw [BitVec.toNat_and, BitVec.toNat_ofInt, hm, Nat.and_two_pow_sub_one_eq_mod]
  show IntKind.i64.wrap ((BitVec.ofInt 64 n &&& BitVec.ofInt 64 3).toNat : Nat) = n % 4
  rw [e, IntKind.wrap_i64]
  omega
theorem okI_of {x : Int} (h1 : -9223372036854775808 ≤ x) (h2 : x ≤ 9223372036854775807) : okI x := by
  unfold okI
  exact WalkArith.wf_i64 ⟨h1, h2⟩

/-- all is in order up to i, but what stands at j -/
def Ins (M : List Int) (i j : Nat) : Prop := ∀ a b x y, a < b → b ≤ i → b ≠ j → M[a]? = some x → M[b]? = some y → x < y
theorem Ins.start {M : List Int} {i : Nat} (h : ∀ a b x y, a < b → b < i → M[a]? = some x → M[b]? = some y → x < y) : Ins M i i := fun a b x y h1 h2 h3 ha hb => h a b x y h1 (by omega) ha hb
theorem Ins.step {M : List Int} {i j : Nat} {x y : Int} (h : Ins M i (j + 1)) (hji : j + 1 ≤ i) (hx : M[j + 1]? = some x) (hy : M[j]? = some y) (hl : x < y) : Ins (swL M (j + 1) j x y) i j := by
  obtain ⟨hj1, -⟩ := List.getElem?_eq_some_iff.1 hx
  have e1 : (swL M (j + 1) j x y)[j + 1]? = some y := by unfold swL; rw [List.getElem?_set_ne (by omega)]; simp [hj1]
  have e2 : (swL M (j + 1) j x y)[j]? = some x := by unfold swL; rw [List.getElem?_set_self (by rw [List.length_set]; omega)]
  have e3 : ∀ k, k ≠ j → k ≠ j + 1 → (swL M (j + 1) j x y)[k]? = M[k]? := fun k h1 h2 => by unfold swL; rw [List.getElem?_set_ne (Ne.symm h1), List.getElem?_set_ne (Ne.symm h2)]
  intro a b u v hab hbi hbj ha hb
  by_cases b1 : b = j + 1
  · subst b1
    rw [e1] at hb
    cases hb
    by_cases a1 : a = j
    · subst a1
      rw [e2] at ha
      cases ha
      exact hl
    · rw [e3 a a1 (by omega)] at ha
      exact h a j u _ (by omega) (by omega) (by omega) ha hy
  · rw [e3 b hbj b1] at hb
    by_cases a1 : a = j
    · subst a1
      rw [e2] at ha
      cases ha
      exact h (a + 1) b _ v (by omega) hbi b1 hx hb
    · by_cases a2 : a = j + 1
      · subst a2
        rw [e1] at ha
        cases ha
        exact h j b _ v (by omega) hbi b1 hy hb
      · rw [e3 a a1 a2] at ha
        exact h a b u v hab hbi b1 ha hb
theorem Ins.done {M : List Int} {i j : Nat} (h : Ins M i j) (hn : M.Nodup) (hj : j = 0 ∨ ∃ k x y, j = k + 1 ∧ M[k + 1]? = some x ∧ M[k]? = some y ∧ ¬ x < y) : ∀ a b x y, a < b → b < i + 1 → M[a]? = some x → M[b]? = some y → x < y := by
  intro a b u v hab hb ha hv
  by_cases e : b = j
  · rcases hj with h0 | ⟨k, x, y, rfl, hx, hy, hl⟩
    · omega
    · rw [e, hx] at hv
      have hxv : x = v := by simpa using hv
      have hne : y ≠ x := by
        intro e'
        obtain ⟨h1, e1⟩ := List.getElem?_eq_some_iff.1 hx
        obtain ⟨h2, e2⟩ := List.getElem?_eq_some_iff.1 hy
        exact (List.pairwise_iff_getElem.1 hn) k (k + 1) h2 h1 (by omega) (by rw [e1, e2]; exact e')
      by_cases e2 : a = k
      · rw [e2, hy] at ha
        have hyu : y = u := by simpa using ha
        omega
      · have := h a k u y (by omega) (by omega) (by omega) ha hy
        omega
  · exact h a b u v hab (by omega) e ha hv

set_option maxHeartbeats 8000000 in
set_option maxRecDepth 100000 in
theorem tells_l (a : Option Addr) (len cap : Nat) (a1 : Option Addr) (len1 cap1 : Nat) (xs : List ByteArray) (ys : List Int) (s : ByteArray) (x : Int) (w : World) (h : InC cS okS w a len cap xs) (h1 : InC cI okI w a1 len1 cap1 ys) (hs : s.size ≤ maxLen) (hx : (Lit.int .i64 x).wf = true) :
    Calls Try.prog 3 #[.slice a len cap, .slice a1 len1 cap1, .string s, .int .i64 x] w fun e w' => e = .returned (.bool true) ∧ Below w.heap.size w w' := by
  obtain ⟨hle, hcm⟩ := h.le
  obtain ⟨hle1, hcm1⟩ := h1.le
  have hxl := h.1
  have hyl := h1.1
  have hokx := h.2.2
  have hoky := h1.2.2
  have HI := Lib.hid h
  have HJ := Lib.hid h1
  have HSZ := Lib.hid hs
  have HXO := Lib.hid hx
  clear h h1 hs hx
  unfold maxLen at hcm hcm1
  subst hxl
  subst hyl
  go_enter Try.func3, Try.ntmps3
  go_wp2_with fail
  refine (known_s w).mono ?_
  rintro e w1 ⟨rfl, hb1⟩
  have HR1 := Lib.hid (HI.out.low rfl hb1)
  have HB1 := Lib.hid hb1
  clear hb1
  by_cases hbig : 20 < xs.length ∨ 20 < ys.length
  · by_cases hb1 : 20 < xs.length
    · have hb1' : (20 : Int) < (xs.length : Int) := by omega
      go_wp2
      go_ret
      exact ⟨rfl, HB1.out⟩
    · have hb1' : (xs.length : Int) ≤ 20 := by omega
      have hb2' : (20 : Int) < (ys.length : Int) := by omega
      go_wp2
      go_ret
      exact ⟨rfl, HB1.out⟩
  · have hsm : (xs.length : Int) ≤ 20 := by omega
    have hsm1 : (ys.length : Int) ≤ 20 := by omega
    have hx20 : xs.length ≤ 20 := by omega
    have hy20 : ys.length ≤ 20 := by omega
    clear hbig
    go_wp2_with fail
    refine (new_S _ xs _ w1 HR1.out hokx (by omega)).mono ?_
    rintro e w2 ⟨sa, ma, rfl, hs2, hb2⟩
    have HS2 := Lib.hid hs2
    have HB2 := Lib.hid (HB1.out.trans (hb2.mono HB1.out.size))
    clear hs2 hb2 HR1
    go_wp2_with fail
    refine (new_I _ [] (fun _ => True) w2 (RdC.nil _ _) (by simp) (by simp)).mono ?_
    rintro e w3 ⟨sb, mb, rfl, hs3, hb3⟩
    rw [onceL_nil] at hs3
    have HA3 := Lib.hid (HS2.out.bel hb3)
    have HA3L := Lib.hid (show sa < w3.heap.size ∧ ma < w3.heap.size from ⟨HA3.out.lt.1, HA3.out.lt.2.1⟩)
    have HB3 := Lib.hid (HB2.out.trans (hb3.mono HB2.out.size))
    have HS3 := Lib.hid hs3
    have hl1 := HS2.out.lt
    have hl2 := hs3.lt
    have hM : Hid (sb < w3.heap.size ∧ mb < w3.heap.size ∧ sa ≠ mb ∧ ma ≠ mb ∧ w.heap.size ≤ mb ∧ w.heap.size ≤ w3.heap.size ∧ sb ≠ mb) := Lib.hid ⟨hl2.1, hl2.2.1, by have := hs3.2.1; omega, by have := hs3.2.1; omega, Nat.le_trans HB2.out.size hs3.2.1, HB3.out.size, hl2.2.2⟩
    clear hs3 hb3 hl1 hl2 HS2 HB2
    go_wp2_with fail
    go_loopw [11, 12] (fun u v wr => ∃ (i : Nat) (L : List Int), v = .int .i64 (i : Int) ∧ i ≤ ys.length ∧ L.length ≤ i ∧ Hid (OwnC cI 3 wr w3.heap.size u L) ∧ Hid (StI wr w2.heap.size sb mb L) ∧ Hid (Kpt [mb] w3 wr)) (fun _ v _ => ys.length - (intOf v).toNat)
    case atStart => exact ⟨0, [], rfl, by omega, by simp, Lib.hid (OwnC.nil _ _), HS3, Lib.hid (Kpt.refl _ _)⟩
    case round =>
      clear HS3
      obtain ⟨i, L, rfl, hi, hLl, HO, HS, HK⟩ := hrel
      have HBr : Hid (Below w.heap.size w wr) := Lib.hid (HB3.out.trans (HK.out.below (fun y hy => by rw [List.mem_singleton.1 hy]; exact hM.out.2.2.2.2.1) HB3.out.size))
      obtain ⟨pu, nu, cu, rfl⟩ := HO.out.slice
      obtain ⟨rfl, hLc, hcu⟩ : nu = L.length ∧ L.length ≤ cu ∧ cu ≤ 2 ^ 63 - 1 := by
        obtain ⟨p', c', e, g1, g2⟩ := HO.out.rd.form
        simp only [Value.slice.injEq] at e
        unfold maxLen at g2
        obtain ⟨_, e1, e2⟩ := e
        exact ⟨e1, by omega, by omega⟩
      by_cases hlt : i < ys.length
      · have hlt' : (i : Int) < (ys.length : Int) := by omega
        have HRy := Lib.hid (HJ.out.low rfl HBr.out)
        have hne : ys ≠ [] := by rintro rfl; simp at hlt
        obtain ⟨b, off, rfl, hb, hbl, hc⟩ := HRy.out.at hne
        have ci : wr.cell? ⟨b, off + i, none⟩ = some (.int .i64 ys[i]) := hc i _ (List.getElem?_eq_getElem hlt)
        have hoy := hoky _ (List.getElem_mem hlt)
        obtain ⟨n, hn⟩ : ∃ n, ys[i] = n := ⟨_, rfl⟩
        rw [hn] at ci hoy
        clear hc hn hb hbl HRy
        by_cases hpar : i % 2 = 0
        · have htm : (i : Int).tmod 2 = 0 := by rw [Int.tmod_eq_emod_of_nonneg (by omega)]; omega
          have h3 := and3 n
          obtain ⟨k, hk⟩ : ∃ k, n % 4 = k := ⟨_, rfl⟩
          rw [hk] at h3
          have hok : okI k := okI_of (by omega) (by omega)
          clear hk hoy hpar
          have hL100 : L.length ≤ 100000 := by omega

          go_wp2_with fail
          refine (in_I _ L k _ wr HO.out.rd hL100).mono ?_
          rintro e w5 ⟨rfl, rfl⟩
          by_cases hin : k ∈ L
          · have hr := hasB_in hin
            rw [hr]
            go_wp2_with fail
            refine (has_I _ sb mb L k wr HS.out hok).mono ?_
            rintro e w5 ⟨rfl, hb5⟩
            rw [hr]
            have HS5 := Lib.hid (HS.out.bel hb5)
            have HK5 : Hid (Kpt [mb] w3 w5) := Lib.hid (HK.out.trans (.of_below (S := []) hb5) (by simp))
            have HO5 : Hid (OwnC cI 3 w5 w3.heap.size (.slice pu L.length cu) L) := Lib.hid (HO.out.kpt (.of_below (S := []) hb5) (by simp))
            clear hb5 HS HK HO ci HBr
            go_wp2_with fail
            refine (add_I _ sb mb L k w5 HS5.out hok hL100).mono ?_
            rintro e w6 ⟨rfl, hs6, hk6⟩
            rw [hr]
            rw [addS_in hin] at hs6
            have HS6 := Lib.hid hs6
            have HK6 : Hid (Kpt [mb] w3 w6) := Lib.hid (HK5.out.trans hk6 (fun y hy => .inl hy))
            have HO6 : Hid (OwnC cI 3 w6 w3.heap.size (.slice pu L.length cu) L) := Lib.hid (HO5.out.kpt hk6 (fun g e h => by have := (HO5.out.lt g e).1; have := hM.out.2.1; rw [List.mem_singleton.1 h] at *; omega))
            clear hs6 hk6 HS5 HK5 HO5
            go_wp2_with fail
            refine (has_I _ sb mb L k w6 HS6.out hok).mono ?_
            rintro e w7 ⟨rfl, hb7⟩
            rw [hr]
            have HS7 := Lib.hid (HS6.out.bel hb7)
            have HK7 : Hid (Kpt [mb] w3 w7) := Lib.hid (HK6.out.trans (.of_below (S := []) hb7) (by simp))
            have HO7 : Hid (OwnC cI 3 w7 w3.heap.size (.slice pu L.length cu) L) := Lib.hid (HO6.out.kpt (.of_below (S := []) hb7) (by simp))
            clear hb7 HS6 HK6 HO6
            go_wp2_with fail
            go_roundw
            case rel => exact ⟨i + 1, L, by go_num, by omega, by omega, HO7, HS7, HK7⟩
            case measure => simp [intOf]; omega
          · have hr := hasB_out hin
            rw [hr]
            go_wp2_with fail
            refine (has_I _ sb mb L k wr HS.out hok).mono ?_
            rintro e w5 ⟨rfl, hb5⟩
            rw [hr]
            have HS5 := Lib.hid (HS.out.bel hb5)
            have HK5 : Hid (Kpt [mb] w3 w5) := Lib.hid (HK.out.trans (.of_below (S := []) hb5) (by simp))
            have HO5 : Hid (OwnC cI 3 w5 w3.heap.size (.slice pu L.length cu) L) := Lib.hid (HO.out.kpt (.of_below (S := []) hb5) (by simp))
            clear hb5 HS HK HO ci HBr
            go_wp2_with fail
            refine (add_I _ sb mb L k w5 HS5.out hok hL100).mono ?_
            rintro e w6 ⟨rfl, hs6, hk6⟩
            rw [hr]
            rw [addS_out hin] at hs6
            have HS6 := Lib.hid hs6
            have HK6 : Hid (Kpt [mb] w3 w6) := Lib.hid (HK5.out.trans hk6 (fun y hy => .inl hy))
            have HO6 : Hid (OwnC cI 3 w6 w3.heap.size (.slice pu L.length cu) L) := Lib.hid (HO5.out.kpt hk6 (fun g e h => by have := (HO5.out.lt g e).1; have := hM.out.2.1; rw [List.mem_singleton.1 h] at *; omega))
            clear hs6 hk6 HS5 HK5 HO5
            go_wp2_with fail
            refine (has_I _ sb mb (L ++ [k]) k w6 HS6.out hok).mono ?_
            rintro e w7 ⟨rfl, hb7⟩
            rw [hasB_in (show k ∈ L ++ [k] by simp)]
            have HS7 := Lib.hid (HS6.out.bel hb7)
            have HK7 : Hid (Kpt [mb] w3 w7) := Lib.hid (HK6.out.trans (.of_below (S := []) hb7) (by simp))
            have HO7 : Hid (OwnC cI 3 w7 w3.heap.size (.slice pu L.length cu) L) := Lib.hid (HO6.out.kpt (.of_below (S := []) hb7) (by simp))
            have HOa := Lib.hid (HO7.out.alloc (.cells #[.int .i64 k] 3))
            have HX7 := Lib.hid (rd_one (c := cI) (x := k) (heap_alloc_new w7 (.cells #[.int .i64 k] 3)) rfl)
            have hz7 := Lib.hid HK7.out.size
            clear hb7 HS6 HK6 HO6
            go_wp2_with (at_builtin; refine wp_appC infI (fun _ => rfl) rfl _ _ rfl w3.heap.size _ L rfl HOa.out (fun _ => True) _ [k] rfl HX7.out (by simp; omega) (by have := hz7.out; simp; omega) ?_)
            intro v8 w8 ho8 hg8 hl8
            obtain ⟨p8, n8, c8', rfl⟩ := ho8.slice
            have k8 : Kpt (Value.slice pu L.length cu).ownBlock.toList w7 w8 := (Kpt.alloc _ w7 _).trans (.of_grown (S := (Value.slice pu L.length cu).ownBlock.toList) hg8 (fun g e => .inl (by rw [e]; simp))) (fun y hy => .inl hy)
            have hfar : ∀ y ∈ (Value.slice pu L.length cu).ownBlock.toList, w3.heap.size ≤ y := fun y hy => (HO7.out.lt y (by simpa using hy)).1
            have HO8 := Lib.hid ho8
            have HS8 : Hid (StI w8 w2.heap.size sb mb (L ++ [k])) := Lib.hid (HS7.out.kpt k8 (fun h => by have := hfar _ h; have := hM.out.1; omega) (fun h => by have := hfar _ h; have := hM.out.2.1; omega))
            have HK8 : Hid (Kpt [mb] w3 w8) := Lib.hid (HK7.out.trans k8 (fun y hy => .inr (hfar y hy)))
            clear ho8 hg8 hl8 k8 hfar HOa HX7 HO7 HS7 HK7
            go_wp2_with fail
            go_roundw
            case rel => exact ⟨i + 1, L ++ [k], by go_num, by omega, by simp; omega, HO8, HS8, HK8⟩
            case measure => simp [intOf]; omega
        · have htm : (i : Int).tmod 2 = 1 := by rw [Int.tmod_eq_emod_of_nonneg (by omega)]; omega
          obtain ⟨k, hk⟩ : ∃ k, n = k := ⟨_, rfl⟩
          subst hk
          have hok : okI n := hoy
          clear hoy hpar
          have hL100 : L.length ≤ 100000 := by omega

          go_wp2_with fail
          refine (in_I _ L n _ wr HO.out.rd hL100).mono ?_
          rintro e w5 ⟨rfl, rfl⟩
          by_cases hin : n ∈ L
          · have hr := hasB_in hin
            rw [hr]
            go_wp2_with fail
            refine (has_I _ sb mb L n wr HS.out hok).mono ?_
            rintro e w5 ⟨rfl, hb5⟩
            rw [hr]
            have HS5 := Lib.hid (HS.out.bel hb5)
            have HK5 : Hid (Kpt [mb] w3 w5) := Lib.hid (HK.out.trans (.of_below (S := []) hb5) (by simp))
            have HO5 : Hid (OwnC cI 3 w5 w3.heap.size (.slice pu L.length cu) L) := Lib.hid (HO.out.kpt (.of_below (S := []) hb5) (by simp))
            clear hb5 HS HK HO ci HBr
            go_wp2_with fail
            refine (add_I _ sb mb L n w5 HS5.out hok hL100).mono ?_
            rintro e w6 ⟨rfl, hs6, hk6⟩
            rw [hr]
            rw [addS_in hin] at hs6
            have HS6 := Lib.hid hs6
            have HK6 : Hid (Kpt [mb] w3 w6) := Lib.hid (HK5.out.trans hk6 (fun y hy => .inl hy))
            have HO6 : Hid (OwnC cI 3 w6 w3.heap.size (.slice pu L.length cu) L) := Lib.hid (HO5.out.kpt hk6 (fun g e h => by have := (HO5.out.lt g e).1; have := hM.out.2.1; rw [List.mem_singleton.1 h] at *; omega))
            clear hs6 hk6 HS5 HK5 HO5
            go_wp2_with fail
            refine (has_I _ sb mb L n w6 HS6.out hok).mono ?_
            rintro e w7 ⟨rfl, hb7⟩
            rw [hr]
            have HS7 := Lib.hid (HS6.out.bel hb7)
            have HK7 : Hid (Kpt [mb] w3 w7) := Lib.hid (HK6.out.trans (.of_below (S := []) hb7) (by simp))
            have HO7 : Hid (OwnC cI 3 w7 w3.heap.size (.slice pu L.length cu) L) := Lib.hid (HO6.out.kpt (.of_below (S := []) hb7) (by simp))
            clear hb7 HS6 HK6 HO6
            go_wp2_with fail
            go_roundw
            case rel => exact ⟨i + 1, L, by go_num, by omega, by omega, HO7, HS7, HK7⟩
            case measure => simp [intOf]; omega
          · have hr := hasB_out hin
            rw [hr]
            go_wp2_with fail
            refine (has_I _ sb mb L n wr HS.out hok).mono ?_
            rintro e w5 ⟨rfl, hb5⟩
            rw [hr]
            have HS5 := Lib.hid (HS.out.bel hb5)
            have HK5 : Hid (Kpt [mb] w3 w5) := Lib.hid (HK.out.trans (.of_below (S := []) hb5) (by simp))
            have HO5 : Hid (OwnC cI 3 w5 w3.heap.size (.slice pu L.length cu) L) := Lib.hid (HO.out.kpt (.of_below (S := []) hb5) (by simp))
            clear hb5 HS HK HO ci HBr
            go_wp2_with fail
            refine (add_I _ sb mb L n w5 HS5.out hok hL100).mono ?_
            rintro e w6 ⟨rfl, hs6, hk6⟩
            rw [hr]
            rw [addS_out hin] at hs6
            have HS6 := Lib.hid hs6
            have HK6 : Hid (Kpt [mb] w3 w6) := Lib.hid (HK5.out.trans hk6 (fun y hy => .inl hy))
            have HO6 : Hid (OwnC cI 3 w6 w3.heap.size (.slice pu L.length cu) L) := Lib.hid (HO5.out.kpt hk6 (fun g e h => by have := (HO5.out.lt g e).1; have := hM.out.2.1; rw [List.mem_singleton.1 h] at *; omega))
            clear hs6 hk6 HS5 HK5 HO5
            go_wp2_with fail
            refine (has_I _ sb mb (L ++ [n]) n w6 HS6.out hok).mono ?_
            rintro e w7 ⟨rfl, hb7⟩
            rw [hasB_in (show n ∈ L ++ [n] by simp)]
            have HS7 := Lib.hid (HS6.out.bel hb7)
            have HK7 : Hid (Kpt [mb] w3 w7) := Lib.hid (HK6.out.trans (.of_below (S := []) hb7) (by simp))
            have HO7 : Hid (OwnC cI 3 w7 w3.heap.size (.slice pu L.length cu) L) := Lib.hid (HO6.out.kpt (.of_below (S := []) hb7) (by simp))
            have HOa := Lib.hid (HO7.out.alloc (.cells #[.int .i64 n] 3))
            have HX7 := Lib.hid (rd_one (c := cI) (x := n) (heap_alloc_new w7 (.cells #[.int .i64 n] 3)) rfl)
            have hz7 := Lib.hid HK7.out.size
            clear hb7 HS6 HK6 HO6
            go_wp2_with (at_builtin; refine wp_appC infI (fun _ => rfl) rfl _ _ rfl w3.heap.size _ L rfl HOa.out (fun _ => True) _ [n] rfl HX7.out (by simp; omega) (by have := hz7.out; simp; omega) ?_)
            intro v8 w8 ho8 hg8 hl8
            obtain ⟨p8, n8, c8', rfl⟩ := ho8.slice
            have k8 : Kpt (Value.slice pu L.length cu).ownBlock.toList w7 w8 := (Kpt.alloc _ w7 _).trans (.of_grown (S := (Value.slice pu L.length cu).ownBlock.toList) hg8 (fun g e => .inl (by rw [e]; simp))) (fun y hy => .inl hy)
            have hfar : ∀ y ∈ (Value.slice pu L.length cu).ownBlock.toList, w3.heap.size ≤ y := fun y hy => (HO7.out.lt y (by simpa using hy)).1
            have HO8 := Lib.hid ho8
            have HS8 : Hid (StI w8 w2.heap.size sb mb (L ++ [n])) := Lib.hid (HS7.out.kpt k8 (fun h => by have := hfar _ h; have := hM.out.1; omega) (fun h => by have := hfar _ h; have := hM.out.2.1; omega))
            have HK8 : Hid (Kpt [mb] w3 w8) := Lib.hid (HK7.out.trans k8 (fun y hy => .inr (hfar y hy)))
            clear ho8 hg8 hl8 k8 hfar HOa HX7 HO7 HS7 HK7
            go_wp2_with fail
            go_roundw
            case rel => exact ⟨i + 1, L ++ [n], by go_num, by omega, by simp; omega, HO8, HS8, HK8⟩
            case measure => simp [intOf]; omega
      · obtain rfl : i = ys.length := by omega
        clear hlt hi
        have HLok := Lib.hid HS.out.2.2.2.oks
        have HLnd := Lib.hid HS.out.2.2.2.nodup
        have hw5z := Lib.hid HK.out.size
        have HAA := Lib.hid (HA3.out.kpt HK.out (by simp; exact hM.out.2.2.1) (by simp; exact hM.out.2.2.2.1))
        clear HK HA3 HB3
        obtain ⟨wA, rfl⟩ : ∃ q, q = wr := ⟨_, rfl⟩
        go_wp2_with fail
        go_loopw [15] (fun v w2' => ∃ (i : Nat) (M : List Int), v = .int .i64 (i : Int) ∧ 1 ≤ i ∧ i ≤ L.length + 1 ∧ M.length = L.length ∧ Hid (M.Perm L) ∧ Hid (OwnC cI 3 w2' w3.heap.size (.slice pu L.length cu) M) ∧ Hid (∀ a b x y, a < b → b < i → M[a]? = some x → M[b]? = some y → x < y) ∧ Hid (Kpt (Value.slice pu L.length cu).ownBlock.toList wA w2')) (fun v _ => L.length - (intOf v).toNat)
        case atStart => exact ⟨1, L, rfl, Nat.le_refl _, by omega, rfl, Lib.hid (List.Perm.refl _), HO, Lib.hid (fun a b x y h1 h2 => by omega), Lib.hid (Kpt.refl _ _)⟩
        case round =>
          obtain ⟨i, M, rfl, hi1, hi2, hMl, HP, HO2, HI2, HK2⟩ := hrel
          by_cases hlt : i < L.length
          · have hlt' : (i : Int) < (L.length : Int) := by omega
            rcases HO2.out.cells with ⟨e, e'⟩ | ⟨g, cap', cur, e, hgW, hgl, _⟩
            · rw [e'] at hMl; simp at hMl; omega
            simp only [Value.slice.injEq] at e
            obtain ⟨rfl, e2, rfl⟩ := e
            clear e2
            go_wp2_with fail
            go_loopw [16] (fun v w2' => ∃ (j : Nat) (M : List Int), v = .int .i64 (j : Int) ∧ j ≤ i ∧ M.length = L.length ∧ Hid (M.Perm L) ∧ Hid (OwnC cI 3 w2' w3.heap.size (.slice (some ⟨g, 0, none⟩) L.length cu) M) ∧ Hid (Ins M i j) ∧ Hid (Kpt [g] wA w2')) (fun v _ => (intOf v).toNat)
            case atStart => exact ⟨i, M, rfl, Nat.le_refl _, hMl, HP, HO2, Lib.hid (Ins.start HI2.out), HK2⟩
            case round =>
              clear HI2 HK2 HO2 HP hMl
              obtain ⟨j, M, rfl, hji, hMl, HP, HO2, HI2, HK2⟩ := hrel
              have hjl : j < M.length := by omega
              have hgj := List.getElem?_eq_getElem hjl
              rcases HO2.out.cells with ⟨e, _⟩ | ⟨g', cap'', cur', e, _, _, _, _, _, hcc, hff, _⟩
              · cases e
              simp only [Value.slice.injEq, Option.some.injEq, Addr.mk.injEq, and_true] at e
              obtain ⟨rfl, e2, rfl⟩ := e
              clear e2
              have cj := hcc j _ hgj
              have fj := hff j
              obtain ⟨v, hv⟩ : ∃ v, M[j] = v := ⟨_, rfl⟩
              rw [hv] at cj hgj
              have hji' : (j : Int) < (L.length : Int) := by omega
              by_cases hj0 : j = 0
              · subst hj0
                have hd : decide ((0 : Int) < (0 : Int)) = false := by simp
                clear cj fj hcc hff hv
                go_wp2_with fail
                go_quiet (fail)
                go_wp2_with fail
                go_roundw
                case rel => exact ⟨i + 1, M, by go_num, by omega, by omega, hMl, HP, Lib.hid HO2.out, Lib.hid (Ins.done HI2.out (HP.out.nodup_iff.2 HLnd.out) (.inl rfl)), Lib.hid (HK2.out.trans (.of_below (S := [g]) (below_drewN _ _ _)) (fun y hy => .inl hy))⟩
                case measure => simp [intOf]; omega
              · obtain ⟨k, rfl⟩ : ∃ k, j = k + 1 := ⟨j - 1, by omega⟩
                have hkl : k < M.length := by omega
                have hgk := List.getElem?_eq_getElem hkl
                have ck := hcc k _ hgk
                have fk := hff k
                obtain ⟨u, hu⟩ : ∃ u, M[k] = u := ⟨_, rfl⟩
                rw [hu] at ck hgk
                have cj' : World.cell? _ ⟨g, k + 1, none⟩ = some (.int .i64 v) := cj
                have ck' : World.cell? _ ⟨g, k, none⟩ = some (.int .i64 u) := ck
                have GJ := Lib.hid hgj
                have GK := Lib.hid hgk
                have hki : (((k + 1 : Nat)) : Int) - 1 = (k : Int) := by omega
                have hkl' : (k : Int) < (L.length : Int) := by omega
                have hpos : (0 : Int) < ((k + 1 : Nat) : Int) := by omega
                have hposn : 0 < k + 1 := by omega
                have hne1 : k + 1 ≠ k := by omega
                have hne2 : k ≠ k + 1 := by omega
                clear cj ck hcc hff hv hu hgj hgk hj0 hjl hkl
                by_cases hvu : v < u
                · have hdv : decide (v < u) = true := decide_eq_true hvu
                  go_wp2_with fail
                  go_quiet (fail)
                  go_wp2_with fail
                  generalize hwq : World.drewN _ _ = wq
                  have HOq : Hid (OwnC cI 3 wq w3.heap.size (.slice (some ⟨g, 0, none⟩) L.length cu) M) := Lib.hid (by rw [← hwq]; exact HO2.out)
                  have HKq : Hid (Kpt [g] wA wq) := Lib.hid (HK2.out.trans (Kpt.of_below (S := [g]) (by rw [← hwq]; exact below_drewN _ _ _)) (fun y hy => .inl hy))
                  replace cj' : wq.cell? ⟨g, k + 1, none⟩ = some (.int .i64 v) := by rw [← hwq]; exact cj'
                  replace ck' : wq.cell? ⟨g, k, none⟩ = some (.int .i64 u) := by rw [← hwq]; exact ck'
                  replace fj : wq.frozen? ⟨g, k + 1, none⟩ = false := by rw [← hwq]; exact fj
                  replace fk : wq.frozen? ⟨g, k, none⟩ = false := by rw [← hwq]; exact fk
                  clear hwq HO2 HK2
                  go_region
                  have hsw : OwnC cI 3 ((wq.setCell ⟨g, k + 1, none⟩ (.int .i64 u)).setCell ⟨g, k, none⟩ (.int .i64 v)) w3.heap.size (.slice (some ⟨g, 0, none⟩) L.length cu) (swL M (k + 1) k v u) := (HOq.out.set (k + 1) u).set k v
                  have hks : Kpt [g] wq ((wq.setCell ⟨g, k + 1, none⟩ (.int .i64 u)).setCell ⟨g, k, none⟩ (.int .i64 v)) := (Kpt.set [g] wq g (k + 1) _ (by simp)).trans (Kpt.set [g] _ g k _ (by simp)) (fun y hy => .inl hy)
                  generalize hwz : ((wq.setCell ⟨g, k + 1, none⟩ (.int .i64 u)).setCell ⟨g, k, none⟩ (.int .i64 v)).drew = wz
                  have HOz : Hid (OwnC cI 3 wz w3.heap.size (.slice (some ⟨g, 0, none⟩) L.length cu) (swL M (k + 1) k v u)) := Lib.hid (by rw [← hwz]; exact hsw)
                  have HKz : Hid (Kpt [g] wA wz) := Lib.hid (HKq.out.trans (by rw [← hwz]; exact hks.drew) (fun y hy => .inl hy))
                  clear hwz hsw hks cj' ck' fj fk HOq HKq
                  go_wp2_with fail
                  go_roundw
                  case rel => exact ⟨k, swL M (k + 1) k v u, by go_num, by omega, by rw [swL_len]; exact hMl, Lib.hid ((swL_perm GJ.out GK.out).trans HP.out), HOz, Lib.hid (HI2.out.step hji GJ.out GK.out hvu), HKz⟩
                  case measure => first | (simp [intOf]; done) | (simp [intOf]; omega)
                · have hdv : decide (v < u) = false := decide_eq_false hvu
                  have HVU := Lib.hid hvu
                  clear hvu
                  go_wp2_with fail
                  go_quiet (fail)
                  go_wp2_with fail
                  go_roundw
                  case rel => exact ⟨i + 1, M, by go_num, by omega, by omega, hMl, HP, Lib.hid HO2.out, Lib.hid (Ins.done HI2.out (HP.out.nodup_iff.2 HLnd.out) (.inr ⟨k, v, u, rfl, GJ.out, GK.out, by have := HVU.out; omega⟩)), Lib.hid (HK2.out.trans (.of_below (S := [g]) (below_drewN _ _ _)) (fun y hy => .inl hy))⟩
                  case measure => simp [intOf]; omega
          · have hge : (L.length : Int) ≤ (i : Int) := by omega
            have HSRT : Hid (Srt ltI M) := Lib.hid (by
              show List.Pairwise _ _
              rw [List.pairwise_iff_getElem]
              intro a b ha hb hab
              have := HI2.out a b _ _ hab (by omega) (List.getElem?_eq_getElem ha) (List.getElem?_eq_getElem hb)
              simpa [ltI] using this)
            have hfar : ∀ y ∈ (Value.slice pu L.length cu).ownBlock.toList, w3.heap.size ≤ y := fun y hy => (HO2.out.lt y (by simpa using hy)).1
            have HSr := Lib.hid (HS.out.kpt HK2.out (fun h => by have := hfar _ h; have := hM.out.1; omega) (fun h => by have := hfar _ h; have := hM.out.2.1; omega))
            have hla := HAA.out.lt
            have HAr := Lib.hid (HAA.out.kpt HK2.out (fun h => by have := hfar _ h; have := HA3L.out.1; omega) (fun h => by have := hfar _ h; have := HA3L.out.2; omega))
            have HBR : Hid (Below w.heap.size w wr) := Lib.hid (HBr.out.trans (HK2.out.below (fun y hy => by have := hfar y hy; have := hM.out.2.2.2.2.2.1; omega) HBr.out.size))
            have HPM : Hid (∀ y, y ∈ M ↔ y ∈ L) := Lib.hid (fun y => HP.out.mem_iff)
            have hol := onceL_len xs
            clear hlt HI2 HK2 HS HAA HBr hfar hla HP
            go_wp2_with fail
            refine (list_I _ sb mb L wr HSr.out (by omega)).mono ?_
            rintro e w5 ⟨v5, R5, rfl, ho5, hsr5, hm5, hb5⟩
            have hRM : R5 = M := srt_eq toI hsr5 HSRT.out (fun y => by rw [hm5, HPM.out])
            subst hRM
            have HS5 := Lib.hid (HSr.out.bel hb5)
            have HA5 := Lib.hid (HAr.out.bel hb5)
            have HB5 := Lib.hid (HBR.out.trans (hb5.mono HBR.out.size))
            have HR5 : Hid (RdC cI (fun _ => True) w5 v5 R5) := Lib.hid (ho5.rd.keep (fun b _ _ => rfl) (fun _ _ _ => trivial) (Nat.le_refl _))
            have HU5 : Hid (RdC cI (fun _ => True) w5 (.slice pu L.length cu) R5) := Lib.hid (HO2.out.rd.keep (fun b _ hl => hb5.block b hl) (fun _ _ _ => trivial) hb5.size)
            obtain ⟨p5, c5, rfl, q1, q2⟩ := HR5.out.form
            rw [hMl] at HR5 q1
            clear ho5 hsr5 hm5 hb5 HO2 HSr HAr HBR
            go_wp2_with fail
            refine (same_I _ _ R5 R5 (fun _ => True) (fun _ => True) w5 HR5.out HU5.out (by omega) (by omega)).mono ?_
            rintro e w6 ⟨rfl, n6, hw6⟩
            rw [eqB_iff.2 rfl]
            have HS6 : Hid (StI w6 w2.heap.size sb mb L) := Lib.hid (by rw [hw6]; exact HS5.out)
            have HA6 : Hid (StS w6 w1.heap.size sa ma (onceL xs)) := Lib.hid (by rw [hw6]; exact HA5.out)
            have HB6 : Hid (Below w.heap.size w w6) := Lib.hid (by rw [hw6]; exact HB5.out.trans (below_drewN _ _ _))
            have HU6 : Hid (RdC cI (fun _ => True) w6 (.slice pu L.length cu) R5) := Lib.hid (by rw [hw6]; exact HU5.out)
            clear hw6 HS5 HA5 HB5 HU5
            go_wp2_with fail
            refine (len_I _ sb mb L w6 HS6.out (by omega)).mono ?_
            rintro e w7 ⟨rfl, hb7⟩
            have HS7 := Lib.hid (HS6.out.bel hb7)
            have HA7 := Lib.hid (HA6.out.bel hb7)
            have HB7 := Lib.hid (HB6.out.trans (hb7.mono HB6.out.size))
            have HU7 : Hid (RdC cI (fun _ => True) w7 (.slice pu L.length cu) R5) := Lib.hid (HU6.out.keep (fun b _ hl => hb7.block b hl) (fun _ h _ => h) hb7.size)
            clear hb7 HS6 HA6 HB6 HU6
            obtain ⟨r, hr⟩ : ∃ r, hasB L x = r := ⟨_, rfl⟩
            have hr2 : hasB R5 x = r := by rw [← hr]; exact hasB_eq (HPM.out x)
            go_wp2_with fail
            refine (has_I _ sb mb L x w7 HS7.out HXO.out).mono ?_
            rintro e w8 ⟨rfl, hb8⟩
            rw [hr]
            have HA8 := Lib.hid (HA7.out.bel hb8)
            have HB8 := Lib.hid (HB7.out.trans (hb8.mono HB7.out.size))
            have HU8 : Hid (RdC cI (fun _ => True) w8 (.slice pu L.length cu) R5) := Lib.hid (HU7.out.keep (fun b _ hl => hb8.block b hl) (fun _ h _ => h) hb8.size)
            clear hb8 HS7 HA7 HB7 HU7
            go_wp2_with fail
            refine (in_I _ R5 x _ w8 HU8.out (by omega)).mono ?_
            rintro e w9 ⟨rfl, rfl⟩
            rw [hr2]
            clear hr hr2
            go_wp2_with fail
            refine (list_S _ sa ma (onceL xs) w8 HA8.out (by omega)).mono ?_
            rintro e w10 ⟨v10, R10, rfl, ho10, hsr10, hm10, hb10⟩
            have HA10 := Lib.hid (HA8.out.bel hb10)
            have HB10 := Lib.hid (HB8.out.trans (hb10.mono HB8.out.size))
            have HR10 : Hid (RdC cS (fun _ => True) w10 v10 R10) := Lib.hid (ho10.rd.keep (fun b _ _ => rfl) (fun _ _ _ => trivial) (Nat.le_refl _))
            have HSR10 := Lib.hid hsr10
            have HM10 : Hid (∀ y, y ∈ R10 ↔ y ∈ xs) := Lib.hid (fun y => (hm10 y).trans (onceL_mem xs y))
            have hl10 : Hid (R10.length = (onceL xs).length) := Lib.hid (nodup_len_eq (hsr10.nodup toS) (onceL_nodup xs) hm10)
            obtain ⟨p10, c10, rfl, q3, q4⟩ := HR10.out.form
            clear ho10 hsr10 hm10 hb10 HA8 HB8 HU8
            have HX10 := Lib.hid (HI.out.low rfl HB10.out)
            go_wp2_with fail
            refine (sorted_s _ xs w.heap.size w10 HX10.out (by omega) HB10.out.size).mono ?_
            rintro e w11 ⟨v11, R11, rfl, ho11, hsr11, hm11, hb11⟩
            have hRR : R11 = R10 := srt_eq toS hsr11 HSR10.out (fun y => by rw [hm11, HM10.out])
            subst hRR
            have HA11 := Lib.hid (HA10.out.bel hb11)
            have HB11 := Lib.hid (HB10.out.trans (hb11.mono HB10.out.size))
            have HR11 : Hid (RdC cS (fun _ => True) w11 v11 R11) := Lib.hid (ho11.rd.keep (fun b _ _ => rfl) (fun _ _ _ => trivial) (Nat.le_refl _))
            have HR1011 : Hid (RdC cS (fun _ => True) w11 (.slice p10 R11.length c10) R11) := Lib.hid (HR10.out.keep (fun b _ hl => hb11.block b hl) (fun _ h _ => h) hb11.size)
            obtain ⟨p11, c11, rfl, q5, q6⟩ := HR11.out.form
            have hR20 : R11.length ≤ 20 := by have := hl10.out; omega
            clear ho11 hsr11 hm11 hb11 HA10 HB10 HX10
            go_wp2_with fail
            refine (strs_S _ _ R11 R11 (fun _ => True) (fun _ => True) w11 HR1011.out HR11.out (by omega) (by omega)).mono ?_
            rintro e w12 ⟨rfl, n12, hw12⟩
            rw [eqB_iff.2 rfl]
            have HA12 : Hid (StS w12 w1.heap.size sa ma (onceL xs)) := Lib.hid (by rw [hw12]; exact HA11.out)
            have HB12 : Hid (Below w.heap.size w w12) := Lib.hid (by rw [hw12]; exact HB11.out.trans (below_drewN _ _ _))
            clear hw12 HA11 HB11 HR11 HR1011
            obtain ⟨r2, hr2⟩ : ∃ r, hasB (onceL xs) s = r := ⟨_, rfl⟩
            have hr3 : hasB xs s = r2 := by rw [← hr2]; exact (hasB_eq (onceL_mem xs s)).symm
            go_wp2_with fail
            refine (has_S _ sa ma (onceL xs) s w12 HA12.out HSZ.out).mono ?_
            rintro e w13 ⟨rfl, hb13⟩
            rw [hr2]
            have HA13 := Lib.hid (HA12.out.bel hb13)
            have HB13 := Lib.hid (HB12.out.trans (hb13.mono HB12.out.size))
            clear hb13 HA12 HB12
            have HX13 := Lib.hid (HI.out.low rfl HB13.out)
            go_wp2_with fail
            refine (in_S _ xs s _ w13 HX13.out (by omega)).mono ?_
            rintro e w14 ⟨rfl, rfl⟩
            rw [hr3]
            clear hr2 hr3
            go_wp2_with fail
            refine (len_S _ sa ma (onceL xs) w13 HA13.out (by omega)).mono ?_
            rintro e w15 ⟨rfl, hb15⟩
            rw [← hl10.out]
            have HB15 := Lib.hid (HB13.out.trans (hb15.mono HB13.out.size))
            clear hb15 HA13 HB13 HX13
            have HX15 := Lib.hid (HI.out.low rfl HB15.out)
            go_wp2_with fail
            refine (sorted_s _ xs w.heap.size w15 HX15.out (by omega) HB15.out.size).mono ?_
            rintro e w16 ⟨v16, R16, rfl, ho16, hsr16, hm16, hb16⟩
            have hRR2 : R16 = R11 := srt_eq toS hsr16 HSR10.out (fun y => by rw [hm16, HM10.out])
            subst hRR2
            obtain ⟨p16, c16, rfl, q7, q8⟩ := ho16.rd.form
            have HB16 := Lib.hid (HB15.out.trans (hb16.mono HB15.out.size))
            clear ho16 hsr16 hm16 hb16
            go_wp2
            go_ret
            exact ⟨rfl, HB16.out⟩
end Go.Proofs.Ytejjmbfbjagifaa.S
