/- Texts that the proof is made of, joined. No condition. -/
import Derived.Test.YtdjciahaohfohaaC113
import Derived.Test.YtdjciahaohfohaaC112
import Derived.Deep.DeepCutAuto
import Derived.Deep.CutBlock
import Derived.Test.YtdjciahaohfohaaC11H
set_option linter.unusedVariables false
set_option linter.unusedSimpArgs false
set_option maxRecDepth 100000
set_option maxHeartbeats 16000000
namespace Go.Proofs.Ytdjciahaohfohaa.R
open Go.RowKit Go.Proofs.Ytdjciahaohfohaa.D Go.Proofs.Ytdjciahaohfohaa.O Go.Proofs.Ytdjciahaohfohaa.A
theorem first_at {l m : List ByteArray} {i : Nat} {y : ByteArray} (h : m[i]? = some y) : firstIn l (m.drop i) = if S.hasB l y = true then y else firstIn l (m.drop (i + 1)) := by
  obtain ⟨hi, rfl⟩ := List.getElem?_eq_some_iff.1 h
  rw [List.drop_eq_getElem_cons hi]
  rfl
set_option maxHeartbeats 4000000 in
set_option maxRecDepth 100000 in
theorem Common_t (ok : Nat → Prop) (tb mt : Nat) (vs : Value) (K : List Cls) (a b : ByteArray) (w : World) (h : TrW w ok tb mt vs K) (ha : a.size ≤ maxLen) (hb : b.size ≤ maxLen) :
    Calls Try.prog 35 #[.pointer (some ⟨tb, 0, none⟩), .string a, .string b] w fun e w' => e = .returned (.string (commonT (K.map skOf) a b)) ∧ Below w.heap.size w w' := by
  obtain ⟨R, hR⟩ : ∃ x, commonT (K.map skOf) a b = x := ⟨_, rfl⟩
  have HT := Lib.hid h
  have HS := Lib.hid h.2.2.2.2.2
  have hcl := HS.out.chain a
  have hcl2 := HS.out.chain b
  have HKA := Lib.hid (chain_kn (K.map skOf) a)
  have HKB := Lib.hid (chain_kn (K.map skOf) b)
  rw [hR]
  unfold commonT at hR
  clear h
  by_cases hab : a = b
  · have HRR : Hid (firstIn (chainT (K.map skOf) b).1 ((chainT (K.map skOf) a).1.drop 0) = R) := Lib.hid (by rw [List.drop_zero, ← hR, if_pos hab])
    have he := Go.Proofs.Ytdjciahaohfohaa.txt_eq hab
    have HB : Hid (Below w.heap.size w w) := Lib.hid (Below.refl _ _)
    clear hab hR
    go_enter Try.func35, Try.ntmps35
    go_wp2_with fail
    refine (Chain_t ok tb mt vs K b w (HT.out.below HB.out) hb).mono ?_
    rintro e w2 ⟨p2, c2, rfl, ho2, hb2⟩
    have HB2 := Lib.hid (HB.out.trans (hb2.mono HB.out.size))
    have HO2 := Lib.hid ho2
    clear ho2 hb2 HB
    go_wp2_with fail
    refine (S.new_S _ _ _ w2 HO2.out.rd (HS.out.kn HKB.out) (by omega)).mono ?_
    rintro e w3 ⟨sb, mb, rfl, hs3, hb3⟩
    have HB3 := Lib.hid (HB2.out.trans (hb3.mono HB2.out.size))
    have HS3 := Lib.hid hs3
    clear hs3 hb3 HB2 HO2
    go_wp2_with fail
    refine (Chain_t ok tb mt vs K a w3 (HT.out.below HB3.out) ha).mono ?_
    rintro e w4 ⟨p4, c4, rfl, ho4, hb4⟩
    have HB4 := Lib.hid (HB3.out.trans (hb4.mono HB3.out.size))
    have HS4 := Lib.hid (HS3.out.bel hb4)
    have HO4 := Lib.hid (own_rdX ho4)
    clear ho4 hb4 HB3 HS3
    obtain ⟨l, hl⟩ : ∃ l, (chainT (K.map skOf) a).1 = l := ⟨_, rfl⟩
    rw [hl] at HO4 HKA HRR hcl ⊢
    clear hl
    have hcap : l.length ≤ c4 := by obtain ⟨_, _, e, h, _⟩ := HO4.out; simp only [Value.slice.injEq] at e; rw [e.2.2]; exact h
    have hz4 := HB4.out.size
    go_wp2_with fail
    go_loopw [31] (fun v wr => ∃ i : Nat, v = .int .i64 (i : Int) ∧ i ≤ l.length ∧ Hid (firstIn (chainT (K.map skOf) b).1 (l.drop i) = R) ∧ Hid (Below w4.heap.size w4 wr)) (fun v _ => l.length - (intOf v).toNat)
    case atStart => exact ⟨0, rfl, by omega, HRR, Lib.hid (Below.refl _ _)⟩
    case round =>
      clear HRR
      obtain ⟨i, rfl, hi, HF, HBr⟩ := hrel
      by_cases hlt : i < l.length
      · obtain ⟨y, hy⟩ : ∃ y, l[i]? = some y := ⟨_, List.getElem?_eq_getElem hlt⟩
        obtain ⟨bb, off, rfl, -, -, hbk, hbl, hc⟩ := rdX_at HO4.out hy
        have hlt' : (i : Int) < (l.length : Int) := by omega
        have i0 : (0 : Int) ≤ (i : Int) := by omega
        have hc2 : wr.cell? ⟨bb, off + i, none⟩ = some (.string y) := (HBr.out.cell hbl).trans hc
        have hym := HS.out.kn HKA.out y (List.mem_of_getElem? hy)
        have HF2 := Lib.hid ((first_at (l := (chainT (K.map skOf) b).1) hy).symm.trans HF.out)
        have hhe : S.hasB (S.onceL (chainT (K.map skOf) b).1) y = S.hasB (chainT (K.map skOf) b).1 y := S.hasB_eq (S.onceL_mem _ y)
        have HHE := Lib.hid hhe
        clear hy hc hhe
        have hbr := HB4.out.trans (HBr.out.mono hz4)
        have HBR := Lib.hid hbr
        clear hbr
        have HSr := Lib.hid (HS4.out.kpt (S.Kpt.of_below (S := []) HBr.out) (by simp) (by simp))
        cases hin : S.hasB (chainT (K.map skOf) b).1 y with
        | true =>
          have HE : Hid (y = R) := Lib.hid (by have := HF2.out; rwa [if_pos hin] at this)
          go_wp2_with fail
          refine (S.has_S w2.heap.size sb mb _ y wr HSr.out hym).mono ?_
          rw [HHE.out, hin]
          rintro e w5 ⟨rfl, hb5⟩
          have HB5 := Lib.hid (HBR.out.trans (hb5.mono HBR.out.size))
          clear hb5
          go_wp2_with fail
          go_ret
          exact ⟨by rw [HE.out]; rfl, HB5.out⟩
        | false =>
          have HF3 : Hid (firstIn (chainT (K.map skOf) b).1 (l.drop (i + 1)) = R) := Lib.hid (by have := HF2.out; rwa [if_neg (by rw [hin]; simp)] at this)
          go_wp2_with fail
          refine (S.has_S w2.heap.size sb mb _ y wr HSr.out hym).mono ?_
          rw [HHE.out, hin]
          rintro e w5 ⟨rfl, hb5⟩
          have HB5 := Lib.hid (HBr.out.trans (hb5.mono HBr.out.size))
          clear hb5
          go_wp2_with fail
          go_roundw
          case rel => exact ⟨i + 1, by go_num, by omega, HF3, HB5⟩
          case measure => simp [intOf]; omega
      · have hlt' : ¬ (i : Int) < (l.length : Int) := by omega
        obtain rfl : i = l.length := by omega
        have HE : Hid (objT = R) := Lib.hid (by have := HF.out; rwa [List.drop_length] at this)
        go_wp2_with fail
        go_ret
        exact ⟨by rw [← HE.out]; rfl, HB4.out.trans (HBr.out.mono hz4)⟩
  · have he := Go.Proofs.Ytdjciahaohfohaa.txt_ne hab
    rw [if_neg hab] at hR
    clear hab
    cases hka : decide (kindT (K.map skOf) a = 4) with
    | true =>
      have HE : Hid (objT = R) := Lib.hid (by rwa [if_pos (of_decide_eq_true hka)] at hR)
      clear hR
      go_enter Try.func35, Try.ntmps35
      go_wp2_with fail
      refine (isif_t ok tb mt vs K a w HT.out ha).mono ?_
      rw [hka]
      rintro e w1 ⟨rfl, hb1⟩
      have HB := Lib.hid hb1
      clear hb1
      go_wp2_with fail
      go_ret
      exact ⟨by rw [← HE.out]; rfl, HB.out⟩
    | false =>
      rw [if_neg (of_decide_eq_false hka)] at hR
      cases hkb : decide (kindT (K.map skOf) b = 4) with
      | true =>
        have HE : Hid (objT = R) := Lib.hid (by rwa [if_pos (of_decide_eq_true hkb)] at hR)
        clear hR
        go_enter Try.func35, Try.ntmps35
        go_wp2_with fail
        refine (isif_t ok tb mt vs K a w HT.out ha).mono ?_
        rw [hka]
        rintro e w1 ⟨rfl, hb1⟩
        have HB := Lib.hid hb1
        clear hb1
        go_wp2_with fail
        refine (isif_t ok tb mt vs K b w1 (HT.out.below HB.out) hb).mono ?_
        rw [hkb]
        rintro e w2 ⟨rfl, hb2⟩
        have HB2 := Lib.hid (HB.out.trans (hb2.mono HB.out.size))
        clear hb2
        go_wp2_with fail
        go_ret
        exact ⟨by rw [← HE.out]; rfl, HB2.out⟩
      | false =>
        rw [if_neg (of_decide_eq_false hkb)] at hR
        have HRR : Hid (firstIn (chainT (K.map skOf) b).1 ((chainT (K.map skOf) a).1.drop 0) = R) := Lib.hid (by rw [List.drop_zero, ← hR])
        clear hR
        go_enter Try.func35, Try.ntmps35
        go_wp2_with fail
        refine (isif_t ok tb mt vs K a w HT.out ha).mono ?_
        rw [hka]
        rintro e w0 ⟨rfl, hb0⟩
        have HB0 := Lib.hid hb0
        clear hb0 hka
        go_wp2_with fail
        refine (isif_t ok tb mt vs K b w0 (HT.out.below HB0.out) hb).mono ?_
        rw [hkb]
        rintro e w1 ⟨rfl, hb1⟩
        have HB := Lib.hid (HB0.out.trans (hb1.mono HB0.out.size))
        clear hb1 HB0 hkb
        go_wp2_with fail
        refine (Chain_t ok tb mt vs K b w1 (HT.out.below HB.out) hb).mono ?_
        rintro e w2 ⟨p2, c2, rfl, ho2, hb2⟩
        have HB2 := Lib.hid (HB.out.trans (hb2.mono HB.out.size))
        have HO2 := Lib.hid ho2
        clear ho2 hb2 HB
        go_wp2_with fail
        refine (S.new_S _ _ _ w2 HO2.out.rd (HS.out.kn HKB.out) (by omega)).mono ?_
        rintro e w3 ⟨sb, mb, rfl, hs3, hb3⟩
        have HB3 := Lib.hid (HB2.out.trans (hb3.mono HB2.out.size))
        have HS3 := Lib.hid hs3
        clear hs3 hb3 HB2 HO2
        go_wp2_with fail
        refine (Chain_t ok tb mt vs K a w3 (HT.out.below HB3.out) ha).mono ?_
        rintro e w4 ⟨p4, c4, rfl, ho4, hb4⟩
        have HB4 := Lib.hid (HB3.out.trans (hb4.mono HB3.out.size))
        have HS4 := Lib.hid (HS3.out.bel hb4)
        have HO4 := Lib.hid (own_rdX ho4)
        clear ho4 hb4 HB3 HS3
        obtain ⟨l, hl⟩ : ∃ l, (chainT (K.map skOf) a).1 = l := ⟨_, rfl⟩
        rw [hl] at HO4 HKA HRR hcl ⊢
        clear hl
        have hcap : l.length ≤ c4 := by obtain ⟨_, _, e, h, _⟩ := HO4.out; simp only [Value.slice.injEq] at e; rw [e.2.2]; exact h
        have hz4 := HB4.out.size
        go_wp2_with fail
        go_loopw [31] (fun v wr => ∃ i : Nat, v = .int .i64 (i : Int) ∧ i ≤ l.length ∧ Hid (firstIn (chainT (K.map skOf) b).1 (l.drop i) = R) ∧ Hid (Below w4.heap.size w4 wr)) (fun v _ => l.length - (intOf v).toNat)
        case atStart => exact ⟨0, rfl, by omega, HRR, Lib.hid (Below.refl _ _)⟩
        case round =>
          clear HRR
          obtain ⟨i, rfl, hi, HF, HBr⟩ := hrel
          by_cases hlt : i < l.length
          · obtain ⟨y, hy⟩ : ∃ y, l[i]? = some y := ⟨_, List.getElem?_eq_getElem hlt⟩
            obtain ⟨bb, off, rfl, -, -, hbk, hbl, hc⟩ := rdX_at HO4.out hy
            have hlt' : (i : Int) < (l.length : Int) := by omega
            have i0 : (0 : Int) ≤ (i : Int) := by omega
            have hc2 : wr.cell? ⟨bb, off + i, none⟩ = some (.string y) := (HBr.out.cell hbl).trans hc
            have hym := HS.out.kn HKA.out y (List.mem_of_getElem? hy)
            have HF2 := Lib.hid ((first_at (l := (chainT (K.map skOf) b).1) hy).symm.trans HF.out)
            have hhe : S.hasB (S.onceL (chainT (K.map skOf) b).1) y = S.hasB (chainT (K.map skOf) b).1 y := S.hasB_eq (S.onceL_mem _ y)
            have HHE := Lib.hid hhe
            clear hy hc hhe
            have hbr := HB4.out.trans (HBr.out.mono hz4)
            have HBR := Lib.hid hbr
            clear hbr
            have HSr := Lib.hid (HS4.out.kpt (S.Kpt.of_below (S := []) HBr.out) (by simp) (by simp))
            cases hin : S.hasB (chainT (K.map skOf) b).1 y with
            | true =>
              have HE : Hid (y = R) := Lib.hid (by have := HF2.out; rwa [if_pos hin] at this)
              go_wp2_with fail
              refine (S.has_S w2.heap.size sb mb _ y wr HSr.out hym).mono ?_
              rw [HHE.out, hin]
              rintro e w5 ⟨rfl, hb5⟩
              have HB5 := Lib.hid (HBR.out.trans (hb5.mono HBR.out.size))
              clear hb5
              go_wp2_with fail
              go_ret
              exact ⟨by rw [HE.out]; rfl, HB5.out⟩
            | false =>
              have HF3 : Hid (firstIn (chainT (K.map skOf) b).1 (l.drop (i + 1)) = R) := Lib.hid (by have := HF2.out; rwa [if_neg (by rw [hin]; simp)] at this)
              go_wp2_with fail
              refine (S.has_S w2.heap.size sb mb _ y wr HSr.out hym).mono ?_
              rw [HHE.out, hin]
              rintro e w5 ⟨rfl, hb5⟩
              have HB5 := Lib.hid (HBr.out.trans (hb5.mono HBr.out.size))
              clear hb5
              go_wp2_with fail
              go_roundw
              case rel => exact ⟨i + 1, by go_num, by omega, HF3, HB5⟩
              case measure => simp [intOf]; omega
          · have hlt' : ¬ (i : Int) < (l.length : Int) := by omega
            obtain rfl : i = l.length := by omega
            have HE : Hid (objT = R) := Lib.hid (by have := HF.out; rwa [List.drop_length] at this)
            go_wp2_with fail
            go_ret
            exact ⟨by rw [← HE.out]; rfl, HB4.out.trans (HBr.out.mono hz4)⟩
end Go.Proofs.Ytdjciahaohfohaa.R
namespace Go.Proofs.Ytdjciahaohfohaa.R
open Go.RowKit Go.Proofs.Ytdjciahaohfohaa.D Go.Proofs.Ytdjciahaohfohaa.O Go.Proofs.Ytdjciahaohfohaa.A
def nulB (k : Int) : Bool := decide (k = 3) || decide (k = 4)
theorem nullable_y (k : Int) (s : ByteArray) (w : World) :
    Calls Try.prog 32 #[.agg #[.int .i64 k, .string s]] w fun e w' => e = .returned (.bool (nulB k)) ∧ Below w.heap.size w w' := by
  by_cases h3 : k = 3
  · subst h3
    go_enter Try.func32, Try.ntmps32
    go_wp2_with fail
    go_ret
    exact ⟨rfl, below_alR _ _⟩
  · have e3 : (k == 3) = false := by simpa using h3
    by_cases h4 : k = 4
    · subst h4
      go_enter Try.func32, Try.ntmps32
      go_wp2_with fail
      go_ret
      exact ⟨rfl, below_alR _ _⟩
    · have e4 : (k == 4) = false := by simpa using h4
      have e5 : nulB k = false := by unfold nulB; simp [h3, h4]
      rw [e5]
      go_enter Try.func32, Try.ntmps32
      go_wp2_with fail
      go_ret
      exact ⟨rfl, below_alR _ _⟩
theorem refs_y (k1 k2 : Int) (s1 s2 : ByteArray) (w : World) :
    Calls Try.prog 33 #[.agg #[.int .i64 k1, .string s1], .agg #[.int .i64 k2, .string s2]] w fun e w' => e = .returned (.bool (decide (k1 = 4 ∧ k2 = 4))) ∧ Below w.heap.size w w' := by
  by_cases h1 : k1 = 4
  · subst h1
    by_cases h2 : k2 = 4
    · subst h2
      go_enter Try.func33, Try.ntmps33
      go_wp2_with fail
      go_ret
      exact ⟨rfl, jbl2 _ _ _⟩
    · have e2 : (k2 == 4) = false := by simpa using h2
      rw [show decide ((4 : Int) = 4 ∧ k2 = 4) = false by simp [h2]]
      go_enter Try.func33, Try.ntmps33
      go_wp2_with fail
      go_ret
      exact ⟨rfl, jbl2 _ _ _⟩
  · have e1 : (k1 == 4) = false := by simpa using h1
    rw [show decide (k1 = 4 ∧ k2 = 4) = false by simp [h1]]
    go_enter Try.func33, Try.ntmps33
    go_wp2_with fail
    go_ret
    exact ⟨rfl, jbl2 _ _ _⟩
theorem Refers_y (a : Ty) (w : World) :
    Calls Try.prog 16 #[tyv a] w fun e w' => e = .returned (.bool (refB a)) ∧ Below w.heap.size w w' := by
  obtain ⟨k, s⟩ := a
  show Calls _ _ #[.agg #[.int .i64 k, .string s]] w _
  by_cases h6 : k = 6
  · subst h6
    go_enter Try.func16, Try.ntmps16
    go_wp2_with fail
    go_ret
    exact ⟨rfl, below_alR _ _⟩
  · have e6 : (k == 6) = false := by simpa using h6
    have e5 : refB (k, s) = nulB k := by unfold refB nulB; simp [h6]
    rw [e5]
    go_enter Try.func16, Try.ntmps16
    go_wp2_with fail
    refine (nullable_y k s _).mono ?_
    rintro e w1 ⟨rfl, hb⟩
    have HB := Lib.hid ((below_alR _ _).trans (hb.mono (below_alR _ _).size))
    clear hb
    go_wp2_with fail
    go_ret
    exact ⟨rfl, HB.out⟩
end Go.Proofs.Ytdjciahaohfohaa.R
