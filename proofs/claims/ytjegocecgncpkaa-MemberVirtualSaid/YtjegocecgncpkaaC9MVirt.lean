/- Texts that the proof is made of, joined. No condition. -/
import Derived.Test.YtjegocecgncpkaaC916
import Derived.Test.YtjegocecgncpkaaC917
import Derived.Deep.DeepCutAuto
import Derived.Test.YtjegocecgncpkaaC9H
set_option linter.unusedVariables false
set_option linter.unusedSimpArgs false
set_option maxRecDepth 100000
set_option maxHeartbeats 16000000
namespace Go.Proofs.Ytjegocecgncpkaa.R
open Go.RowKit Go.Proofs.Ytjegocecgncpkaa.D Go.Proofs.Ytjegocecgncpkaa.O Go.Proofs.Ytjegocecgncpkaa.A
theorem sup_at3 (i : Nat) (h : i < 3) : ([.string ⟨#[79, 98, 106, 101, 99, 116]⟩, .string ⟨#[65]⟩, .string ⟨#[66]⟩] : List Value)[i]'h = .string (supV i) := by
  match i, h with
  | 0, _ => rfl
  | 1, _ => rfl
  | 2, _ => rfl
def mV (n : Nat) : Mth := ⟨⟨#[109]⟩, [], (5, es), (n : Int) == 3, (n : Int) == 1, 0, [], []⟩
def msV (n : Nat) : List Mth := if 0 < n then [mV n] else []
def nV (p q r i : Nat) : Nat := if i = 0 then p % 4 else if i = 1 then q % 4 else r % 4
def clsW (p q r i : Nat) : Cls := ⟨nmV i, supV i, [], 2, [], msV (nV p q r i)⟩
theorem clsW_next (p q r i : Nat) : (List.range (i + 1)).map (clsW p q r) = (List.range i).map (clsW p q r) ++ [clsW p q r i] := by rw [List.range_succ, List.map_append]; rfl
def lf (p q r : Nat) : List (Bool × ByteArray) := [(decide (0 < nV p q r 2), nmV 2), (decide (0 < nV p q r 1), nmV 1), (decide (0 < nV p q r 0), nmV 0)]
def ld (p q r : Nat) : List (Bool × ByteArray) := [(decide (nV p q r 2 = 2), nmV 2), (decide (nV p q r 1 = 2), nmV 1), (decide (nV p q r 0 = 2), nmV 0)]
def clV (a b c : Nat) : List Cls := [⟨nmV 0, supV 0, [], 2, [], msV a⟩, ⟨nmV 1, supV 1, [], 2, [], msV b⟩, ⟨nmV 2, supV 2, [], 2, [], msV c⟩]
theorem clV_eq (p q r : Nat) : (List.range 3).map (clsW p q r) = clV (p % 4) (q % 4) (r % 4) := rfl
def lF (a b c : Nat) : List (Bool × ByteArray) := [(decide (0 < c), nmV 2), (decide (0 < b), nmV 1), (decide (0 < a), nmV 0)]
def lD (a b c : Nat) : List (Bool × ByteArray) := [(decide (c = 2), nmV 2), (decide (b = 2), nmV 1), (decide (a = 2), nmV 0)]
theorem virt_fin : ∀ a : Fin 4, ∀ b : Fin 4, ∀ c : Fin 4, nmO (methodK (keepL (clV a b c)) ⟨#[67]⟩ ⟨#[109]⟩ ⟨#[40, 41, 86]⟩) = wantL (lF a b c) ∧ ((wantL (lF a b c)).toList == []) = !(methodK (keepL (clV a b c)) ⟨#[67]⟩ ⟨#[109]⟩ ⟨#[40, 41, 86]⟩).isSome ∧
    nmO (virtualK (keepL (clV a b c)) ⟨#[67]⟩ ⟨#[109]⟩ ⟨#[40, 41, 86]⟩) = wantL (lD a b c) ∧ ((wantL (lD a b c)).toList == []) = !(virtualK (keepL (clV a b c)) ⟨#[67]⟩ ⟨#[109]⟩ ⟨#[40, 41, 86]⟩).isSome := by decide +kernel
theorem virt_all (p q r : Nat) : nmO (methodK (keepL ((List.range 3).map (clsW p q r))) ⟨#[67]⟩ ⟨#[109]⟩ ⟨#[40, 41, 86]⟩) = wantL (lf p q r) ∧ ((wantL (lf p q r)).toList == []) = !(methodK (keepL ((List.range 3).map (clsW p q r))) ⟨#[67]⟩ ⟨#[109]⟩ ⟨#[40, 41, 86]⟩).isSome ∧
    nmO (virtualK (keepL ((List.range 3).map (clsW p q r))) ⟨#[67]⟩ ⟨#[109]⟩ ⟨#[40, 41, 86]⟩) = wantL (ld p q r) ∧ ((wantL (ld p q r)).toList == []) = !(virtualK (keepL ((List.range 3).map (clsW p q r))) ⟨#[67]⟩ ⟨#[109]⟩ ⟨#[40, 41, 86]⟩).isSome :=
  virt_fin ⟨p % 4, Nat.mod_lt _ (by decide)⟩ ⟨q % 4, Nat.mod_lt _ (by decide)⟩ ⟨r % 4, Nat.mod_lt _ (by decide)⟩
theorem virt_sz (p q r : Nat) : SzT (((List.range 3).map (clsW p q r)).map skOf) := szT_small (by rw [clV_eq]; kernel_rfl)
theorem virt_few (p q r : Nat) : ∀ c ∈ (List.range 3).map (clsW p q r), FewC c ∧ FewK c := by
  have h1 : ∀ n, ∀ m ∈ msV n, FewM m := fun n m hm => by unfold msV at hm; split at hm <;> simp at hm; subst hm; exact ⟨Nat.zero_le _, Nat.zero_le _, Nat.zero_le _⟩
  have h2 : ∀ n, ∀ m ∈ msV n, SzM m := fun n m hm => by unfold msV at hm; split at hm <;> simp at hm; subst hm; exact ⟨Nat.zero_le _, fun u hu => (by cases hu), Nat.zero_le _⟩
  have h0 : ∀ n, (msV n).length ≤ 100 := fun n => by unfold msV; split <;> simp
  have h3 : ∀ n s b, FewC ⟨n, s, [], 2, [], msV b⟩ ∧ FewK ⟨n, s, [], 2, [], msV b⟩ := fun n s b => ⟨few_cls (Nat.zero_le _) (Nat.zero_le _) (h0 b) (h1 b), Nat.zero_le _, h2 b⟩
  rw [clV_eq]
  exact one_all (h3 _ _ _) (one_all (h3 _ _ _) (one_all (h3 _ _ _) nil_all))
theorem virt_ask (p q r : Nat) : AskK (keepL ((List.range 3).map (clsW p q r))) := askK_of (keep_few (fun c hc => (virt_few p q r c hc).1)) (fun c hc => (virt_few p q r c (keepL_mem _ c hc)).2)
theorem lf_nm (p q r : Nat) : ∀ x ∈ lf p q r, x.2 ≠ es := by intro x hx; simp only [lf, List.mem_cons, List.mem_nil_iff, or_false] at hx; rcases hx with rfl | rfl | rfl <;> (dsimp only; decide)
theorem ld_nm (p q r : Nat) : ∀ x ∈ ld p q r, x.2 ≠ es := by intro x hx; simp only [ld, List.mem_cons, List.mem_nil_iff, or_false] at hx; rcases hx with rfl | rfl | rfl <;> (dsimp only; decide)
set_option maxHeartbeats 8000000 in
set_option maxRecDepth 100000 in
theorem virt_l (p q r : Nat) (w : World) (hp : p < 256) (hq : q < 256) (hr : r < 256) :
    Calls Try.prog 5 #[.int .u8 (p : Int), .int .u8 (q : Int), .int .u8 (r : Int)] w fun e w' => e = .returned (.bool true) ∧ Below w.heap.size w w' := by
  go_enter Try.func5, Try.ntmps5
  try simp only [List.append_eq, List.cons_append, List.nil_append]
  go_wp2_with fail
  refine (known_9 w).mono ?_
  rintro e w1 ⟨rfl, hb1⟩
  have HB1 := Lib.hid hb1
  clear hb1
  obtain ⟨hat, hbl, hsz⟩ := allocs_at [.cells #[.int .u8 ((p : Int) % 4), .int .u8 ((q : Int) % 4), .int .u8 ((r : Int) % 4)] 5, .cells #[.slice none 0 0] 28] w1
  obtain ⟨w2, hw2⟩ : ∃ z, z = List.foldl World.alloc w1 [.cells #[.int .u8 ((p : Int) % 4), .int .u8 ((q : Int) % 4), .int .u8 ((r : Int) % 4)] 5, .cells #[.slice none 0 0] 28] := ⟨_, rfl⟩
  rw [← hw2] at hat hbl hsz
  have hl2 := hat 0 _ rfl
  have hx2 := hat 1 _ rfl
  have HBL := Lib.hid hbl
  simp only [List.foldl_cons, List.foldl_nil] at hw2
  go_upto_region 5 with fail
  rw [← hw2]
  clear hw2 hat hbl
  simp only [List.length_cons, List.length_nil, Nat.zero_add, Nat.reduceAdd] at hsz
  obtain ⟨lb, hlb⟩ : ∃ z, w1.heap.size = z := ⟨_, rfl⟩
  rw [hlb] at hl2 hx2 hsz
  try rw [hlb]
  rw [Nat.add_zero] at hl2
  have HLB := Lib.hid hlb
  clear hlb
  obtain ⟨a, ha⟩ : ∃ z, lb + 1 = z := ⟨_, rfl⟩
  rw [ha] at hx2
  try rw [ha]
  have hla : lb < a := by omega
  have hsa : w2.heap.size = a + 1 := by omega
  clear ha hsz
  have HL : Hid (∀ i, i < 3 → w2.cell? ⟨lb, i, none⟩ = some (.int .u8 (nV p q r i : Int))) := Lib.hid (fun i hi => by
    simp only [World.cell?, hl2]
    match i, hi with
    | 0, _ => show some (Value.int .u8 ((p : Int) % 4)) = some (.int .u8 ((p % 4 : Nat) : Int)); rw [show ((p : Int) % 4) = ((p % 4 : Nat) : Int) by omega]
    | 1, _ => show some (Value.int .u8 ((q : Int) % 4)) = some (.int .u8 ((q % 4 : Nat) : Int)); rw [show ((q : Int) % 4) = ((q % 4 : Nat) : Int) by omega]
    | 2, _ => show some (Value.int .u8 ((r : Int) % 4)) = some (.int .u8 ((r % 4 : Nat) : Int)); rw [show ((r : Int) % 4) = ((r % 4 : Nat) : Int) by omega])
  have HAR : Hid (ArB w2 a a (.slice none 0 0) (.slice none 0 0) [] [] []) := Lib.hid ⟨hx2, Nat.le_refl _, OwnX.nil _ _ _ _ _, trivial, by simp [Value.ownBlock], S.OwnC.nil _ _, by simp [Value.ownBlock], by simp [Value.ownBlock]⟩
  have HA0 : Hid (a < w2.heap.size) := Lib.hid (by omega)
  clear hx2 hl2 hsa
  go_wp2_with fail
  go_loopg [9] 3 (fun g x wr => ∃ (i : Nat) (va : Value) (rs : List (Raw 6)), x = .int .i64 (i : Int) ∧ i + g = 3 ∧ Hid (ArB wr a a va (.slice none 0 0) rs ((List.range i).map (clsW p q r)) []) ∧ Hid (Below a w2 wr))
  case atStart => exact ⟨0, _, [], rfl, rfl, HAR, Lib.hid (Below.refl _ _)⟩
  case round =>
    clear HAR
    obtain ⟨i, va, rs, rfl, hig, HI, HB⟩ := hrel
    cases gk with
    | zero =>
      obtain rfl : i = 3 := by omega
      obtain ⟨-, pva, cva, hva⟩ := HI.out.len
      subst hva
      have HRD := Lib.hid HI.out.rd
      obtain ⟨al, a0, -⟩ := HI.out.cells
      have hnc : Hid (∀ W : World, Below wr.heap.size wr W → ∀ j, j < 3 → W.cell? ⟨a, 0, none⟩ = some (.slice pva ((List.range 3).map (clsW p q r)).length cva) ∧ W.cell? ⟨lb, j, none⟩ = some (.int .u8 (nV p q r j : Int)) ∧ ∃ b off, pva = some ⟨b, off, none⟩ ∧ b < W.heap.size ∧ W.cell? ⟨b, off + j * 6, none⟩ = some (.string (nmV j))) := Lib.hid (fun W hW j hj => by
        refine ⟨(hW.cell (p := ⟨a, 0, none⟩) al).trans a0, ?_, ?_⟩
        · rw [hW.cell (p := ⟨lb, j, none⟩) (by show lb < _; omega), HB.out.cell (p := ⟨lb, j, none⟩) hla]
          exact HL.out j hj
        · obtain ⟨b, off, hpv, -, -, -, hbl, hcc⟩ := HRD.out.place (by simp)
          obtain ⟨l, ⟨vi, vf, vm, rfl, -, -, -⟩, hcell⟩ := hcc j (clsW p q r j) (by rw [List.getElem?_map, List.getElem?_range hj]; rfl)
          refine ⟨b, off, hpv, Nat.lt_of_lt_of_le hbl hW.size, (hW.cell (p := ⟨b, off + j * 6, none⟩) hbl).trans ?_⟩
          exact hcell 0 _ rfl)
      clear HI
      go_wp2_with fail
      refine (New_t ((List.range 3).map (clsW p q r)) pva cva _ wr HRD.out (virt_sz p q r) (fun c hc => (virt_few p q r c hc).1)).mono ?_
      rintro e w9 ⟨tb, mb, vs, rfl, ht9, hb9⟩
      have HT := Lib.hid ht9
      have HB9 : Hid (Below w.heap.size w w9) := Lib.hid ((HB1.out.trans (HBL.out.mono HB1.out.size)).trans ((HB.out.mono (by have := HLB.out; have := HB1.out.size; omega)).trans (hb9.mono (by have := HLB.out; have := HB1.out.size; have := HB.out.size; have := HA0.out; omega))))
      have HNC := Lib.hid (hnc.out w9 hb9)
      have HA := Lib.hid (virt_ask p q r)
      obtain ⟨f1, f2, f3, f4⟩ := virt_all p q r
      obtain ⟨K, hK⟩ : ∃ x, keepL ((List.range 3).map (clsW p q r)) = x := ⟨_, rfl⟩
      rw [hK] at HT HA f1 f2 f3 f4
      obtain ⟨o1, ho1⟩ : ∃ x, methodK K ⟨#[67]⟩ ⟨#[109]⟩ ⟨#[40, 41, 86]⟩ = x := ⟨_, rfl⟩
      obtain ⟨o2, ho2⟩ : ∃ x, virtualK K ⟨#[67]⟩ ⟨#[109]⟩ ⟨#[40, 41, 86]⟩ = x := ⟨_, rfl⟩
      rw [ho1] at f1 f2
      rw [ho2] at f3 f4
      have HO1 := Lib.hid ho1
      have HO2 := Lib.hid ho2
      have HF1 := Lib.hid f1
      have HF2 := Lib.hid f2
      have HF3 := Lib.hid f3
      have HF4 := Lib.hid f4
      obtain ⟨ok, hok⟩ : ∃ x, (fun b => wr.heap.size ≤ b) = x := ⟨_, rfl⟩
      rw [hok] at HT
      have hlen3 : ((List.range 3).map (clsW p q r)).length = 3 := rfl
      rw [hlen3] at HNC
      try rw [hlen3]
      obtain ⟨Lf, hLf⟩ : ∃ z, lf p q r = z := ⟨_, rfl⟩
      obtain ⟨Ld, hLd⟩ : ∃ z, ld p q r = z := ⟨_, rfl⟩
      have HLF : Hid (∀ j, j < 3 → Lf[2 - j]? = some (decide (0 < nV p q r j), nmV j) ∧ Ld[2 - j]? = some (decide (nV p q r j = 2), nmV j)) := Lib.hid (fun j hj => by
        rw [← hLf, ← hLd]
        match j, hj with
        | 0, _ => exact ⟨rfl, rfl⟩
        | 1, _ => exact ⟨rfl, rfl⟩
        | 2, _ => exact ⟨rfl, rfl⟩)
      have HNF := Lib.hid (lf_nm p q r)
      have HND := Lib.hid (ld_nm p q r)
      have hl1 : Lf.length = 3 := by rw [← hLf]; rfl
      have hl2 : Ld.length = 3 := by rw [← hLd]; rfl
      rw [hLf] at HF1 HF2 HNF
      rw [hLd] at HF3 HF4 HND
      have HL1 := Lib.hid hl1
      have HL2 := Lib.hid hl2
      have hal9 : a < w9.heap.size := by have := hb9.size; omega
      clear hK ho1 ho2 hok ht9 f1 f2 f3 f4 hb9 hlen3 hnc HRD a0 al hLf hLd hl1 hl2
      go_wp2_with fail
      go_loopw [13, 14, 15] (fun v u x W => ∃ j : Nat, j ≤ 3 ∧ v = .string (wantL (Lf.take j)) ∧ u = .string (wantL (Ld.take j)) ∧ x = .int .i64 (2 - (j : Int)) ∧ W = w9) (fun _ _ x _ => (intOf x + 1).toNat)
      case atStart => exact ⟨0, by omega, rfl, rfl, by first | rfl | simp, rfl⟩
      case round =>
        obtain ⟨j, hj3, rfl, rfl, rfl, hW⟩ := hrel
        have hW' := hW.symm
        subst hW'
        by_cases hlt : j < 3
        · obtain ⟨i, hi⟩ : ∃ i : Nat, i + j = 2 := ⟨2 - j, by omega⟩
          have hi3 : i < 3 := by omega
          have hji : 2 - (j : Int) = (i : Int) := by omega
          have hje : j = 2 - i := by omega
          rw [hji]
          obtain ⟨c0, c1, b, off, rfl, hbl, c2⟩ := HNC.out i hi3
          obtain ⟨g1, g2⟩ := HLF.out i hi3
          rw [← hje] at g1 g2
          obtain ⟨n, hn⟩ : ∃ z, nV p q r i = z := ⟨_, rfl⟩
          rw [hn] at c1 g1 g2
          have i0 : (0 : Int) ≤ (i : Int) := by omega
          have i3 : (i : Int) < 3 := by omega
          have hll : lb < w9.heap.size := by omega
          have htf : Lf.take (j + 1) = Lf.take j ++ [(decide (0 < n), nmV i)] := by
            obtain ⟨h1, h2⟩ := List.getElem?_eq_some_iff.1 g1
            rw [List.take_succ_eq_append_getElem h1, h2]
          have htd : Ld.take (j + 1) = Ld.take j ++ [(decide (n = 2), nmV i)] := by
            obtain ⟨h1, h2⟩ := List.getElem?_eq_some_iff.1 g2
            rw [List.take_succ_eq_append_getElem h1, h2]
          have HTF := Lib.hid htf
          have HTD := Lib.hid htd
          have HNF1 : Hid (∀ x ∈ Lf.take j, x.2 ≠ es) := Lib.hid (fun x hx => HNF.out x (List.mem_of_mem_take hx))
          have HND1 : Hid (∀ x ∈ Ld.take j, x.2 ≠ es) := Lib.hid (fun x hx => HND.out x (List.mem_of_mem_take hx))
          obtain ⟨Y, hY⟩ : ∃ z, wantL (Lf.take j) = z := ⟨_, rfl⟩
          obtain ⟨Z, hZ⟩ : ∃ z, wantL (Ld.take j) = z := ⟨_, rfl⟩
          rw [hY, hZ]
          have HY := Lib.hid hY
          have HZ := Lib.hid hZ
          have HJI := Lib.hid hji
          clear htf htd g1 g2 hY hZ hn hji hje hi
          have hyy : (Y.toList == []) = decide (Y = es) := by
            rw [show ([] : List UInt8) = es.toList from by decide +kernel]
            by_cases e : Y = es
            · rw [decide_eq_true e]; exact Go.Proofs.Ytjegocecgncpkaa.txt_eq e
            · rw [decide_eq_false e]; exact Go.Proofs.Ytjegocecgncpkaa.txt_ne e
          have hzz : (Z.toList == []) = decide (Z = es) := by
            rw [show ([] : List UInt8) = es.toList from by decide +kernel]
            by_cases e : Z = es
            · rw [decide_eq_true e]; exact Go.Proofs.Ytjegocecgncpkaa.txt_eq e
            · rw [decide_eq_false e]; exact Go.Proofs.Ytjegocecgncpkaa.txt_ne e
          by_cases hn0 : 0 < n
          · have hnz : (0 : Int) < (n : Int) := by omega
            by_cases hye : Y = es
            · rw [decide_eq_true hye] at hyy
              have HEF : Hid (wantL (Lf.take (j + 1)) = nmV i) := Lib.hid (by rw [HTF.out, decide_eq_true hn0, wantL_yes HNF1.out, HY.out, if_pos hye])
              clear hye
              by_cases hn2 : n = 2
              · have hn2' : ((n : Int) == 2) = true := by rw [hn2]; rfl
                by_cases hze : Z = es
                · rw [decide_eq_true hze] at hzz
                  have HED : Hid (wantL (Ld.take (j + 1)) = nmV i) := Lib.hid (by rw [HTD.out, decide_eq_true hn2, wantL_yes HND1.out, HZ.out, if_pos hze])
                  clear hze hn2
                  go_wp2_with fail
                  go_roundw
                  case rel => exact ⟨j + 1, by omega, by rw [HEF.out], by rw [HED.out], by have := HJI.out; congr 1; omega, by first | rfl | trivial⟩
                  case measure => have := HJI.out; simp [intOf] <;> omega
                · rw [decide_eq_false hze] at hzz
                  have HED : Hid (wantL (Ld.take (j + 1)) = Z) := Lib.hid (by rw [HTD.out, decide_eq_true hn2, wantL_yes HND1.out, HZ.out, if_neg hze])
                  clear hze hn2
                  go_wp2_with fail
                  go_roundw
                  case rel => exact ⟨j + 1, by omega, by rw [HEF.out], by rw [HED.out], by have := HJI.out; congr 1; omega, by first | rfl | trivial⟩
                  case measure => have := HJI.out; simp [intOf] <;> omega
              · have hn2' : ((n : Int) == 2) = false := beq_eq_false_iff_ne.2 (by omega)
                have HED : Hid (wantL (Ld.take (j + 1)) = Z) := Lib.hid (by rw [HTD.out, decide_eq_false hn2, wantL_no, HZ.out])
                clear hn2
                go_wp2_with fail
                go_roundw
                case rel => exact ⟨j + 1, by omega, by rw [HEF.out], by rw [HED.out], by have := HJI.out; congr 1; omega, by first | rfl | trivial⟩
                case measure => have := HJI.out; simp [intOf] <;> omega
            · rw [decide_eq_false hye] at hyy
              have HEF : Hid (wantL (Lf.take (j + 1)) = Y) := Lib.hid (by rw [HTF.out, decide_eq_true hn0, wantL_yes HNF1.out, HY.out, if_neg hye])
              clear hye
              by_cases hn2 : n = 2
              · have hn2' : ((n : Int) == 2) = true := by rw [hn2]; rfl
                by_cases hze : Z = es
                · rw [decide_eq_true hze] at hzz
                  have HED : Hid (wantL (Ld.take (j + 1)) = nmV i) := Lib.hid (by rw [HTD.out, decide_eq_true hn2, wantL_yes HND1.out, HZ.out, if_pos hze])
                  clear hze hn2
                  go_wp2_with fail
                  go_roundw
                  case rel => exact ⟨j + 1, by omega, by rw [HEF.out], by rw [HED.out], by have := HJI.out; congr 1; omega, by first | rfl | trivial⟩
                  case measure => have := HJI.out; simp [intOf] <;> omega
                · rw [decide_eq_false hze] at hzz
                  have HED : Hid (wantL (Ld.take (j + 1)) = Z) := Lib.hid (by rw [HTD.out, decide_eq_true hn2, wantL_yes HND1.out, HZ.out, if_neg hze])
                  clear hze hn2
                  go_wp2_with fail
                  go_roundw
                  case rel => exact ⟨j + 1, by omega, by rw [HEF.out], by rw [HED.out], by have := HJI.out; congr 1; omega, by first | rfl | trivial⟩
                  case measure => have := HJI.out; simp [intOf] <;> omega
              · have hn2' : ((n : Int) == 2) = false := beq_eq_false_iff_ne.2 (by omega)
                have HED : Hid (wantL (Ld.take (j + 1)) = Z) := Lib.hid (by rw [HTD.out, decide_eq_false hn2, wantL_no, HZ.out])
                clear hn2
                go_wp2_with fail
                go_roundw
                case rel => exact ⟨j + 1, by omega, by rw [HEF.out], by rw [HED.out], by have := HJI.out; congr 1; omega, by first | rfl | trivial⟩
                case measure => have := HJI.out; simp [intOf] <;> omega
          · have hnz : ¬ (0 : Int) < (n : Int) := by omega
            have HEF : Hid (wantL (Lf.take (j + 1)) = Y) := Lib.hid (by rw [HTF.out, decide_eq_false hn0, wantL_no, HY.out])
            by_cases hn2 : n = 2
            · have hn2' : ((n : Int) == 2) = true := by rw [hn2]; rfl
              by_cases hze : Z = es
              · rw [decide_eq_true hze] at hzz
                have HED : Hid (wantL (Ld.take (j + 1)) = nmV i) := Lib.hid (by rw [HTD.out, decide_eq_true hn2, wantL_yes HND1.out, HZ.out, if_pos hze])
                clear hze hn2
                go_wp2_with fail
                go_roundw
                case rel => exact ⟨j + 1, by omega, by rw [HEF.out], by rw [HED.out], by have := HJI.out; congr 1; omega, by first | rfl | trivial⟩
                case measure => have := HJI.out; simp [intOf] <;> omega
              · rw [decide_eq_false hze] at hzz
                have HED : Hid (wantL (Ld.take (j + 1)) = Z) := Lib.hid (by rw [HTD.out, decide_eq_true hn2, wantL_yes HND1.out, HZ.out, if_neg hze])
                clear hze hn2
                go_wp2_with fail
                go_roundw
                case rel => exact ⟨j + 1, by omega, by rw [HEF.out], by rw [HED.out], by have := HJI.out; congr 1; omega, by first | rfl | trivial⟩
                case measure => have := HJI.out; simp [intOf] <;> omega
            · have hn2' : ((n : Int) == 2) = false := beq_eq_false_iff_ne.2 (by omega)
              have HED : Hid (wantL (Ld.take (j + 1)) = Z) := Lib.hid (by rw [HTD.out, decide_eq_false hn2, wantL_no, HZ.out])
              clear hn2
              go_wp2_with fail
              go_roundw
              case rel => exact ⟨j + 1, by omega, by rw [HEF.out], by rw [HED.out], by have := HJI.out; congr 1; omega, by first | rfl | trivial⟩
              case measure => have := HJI.out; simp [intOf] <;> omega
        · have hlt' : ¬ (0 : Int) ≤ 2 - (j : Int) := by omega
          obtain rfl : j = 3 := by omega
          rw [List.take_of_length_le (by rw [HL1.out]; omega), List.take_of_length_le (by rw [HL2.out]; omega)]
          obtain ⟨Y, hY⟩ : ∃ z, wantL Lf = z := ⟨_, rfl⟩
          obtain ⟨Z, hZ⟩ : ∃ z, wantL Ld = z := ⟨_, rfl⟩
          rw [hY] at HF1 HF2 ⊢
          rw [hZ] at HF3 HF4 ⊢
          clear hY hZ HNC HLF
          go_wp2_with fail
          refine (Method_m ok tb mb vs K _ _ _ w9 HT.out (sz_small (by decide)) HA.out).mono ?_
          rw [HO1.out]
          rintro e w10 ⟨pp, np, cp, pc, nc, cc, ph, nh, ch, rfl, -, hb10⟩
          rw [HF1.out]
          have HB10 := Lib.hid hb10
          clear hb10
          obtain ⟨m1, hm1⟩ : ∃ z, mtO o1 = z := ⟨_, rfl⟩
          obtain ⟨s1, hs1⟩ : ∃ z, o1.isSome = z := ⟨_, rfl⟩
          rw [hm1, hs1]
          rw [hs1] at HF2
          clear hm1 hs1
          have hb11 : Below w10.heap.size w10 (w10.alloc (.cells #[.string m1.name, .slice pp np cp, .int .i64 m1.ret.1, .string m1.ret.2, .bool m1.st, .bool m1.ab, .int .i64 m1.locals, .slice pc nc cc, .slice ph nh ch] 44)) := below_alR _ _
          go_upto_region 23 with fail
          obtain ⟨w11, hw11⟩ : ∃ z, z = w10.alloc (.cells #[.string m1.name, .slice pp np cp, .int .i64 m1.ret.1, .string m1.ret.2, .bool m1.st, .bool m1.ab, .int .i64 m1.locals, .slice pc nc cc, .slice ph nh ch] 44) := ⟨_, rfl⟩
          rw [← hw11] at hb11 ⊢
          clear hw11
          have HB11 := Lib.hid (HB10.out.trans (hb11.mono HB10.out.size))
          clear hb11
          go_wp2_with fail
          refine (Virtual_m ok tb mb vs K _ _ _ w11 (HT.out.below HB11.out) (sz_small (by decide)) HA.out).mono ?_
          rw [HO2.out]
          rintro e w12 ⟨qp, mp, dp, qc, mc, dc, qh, mh, dh, rfl, -, hb12⟩
          rw [HF3.out]
          have HB12 := Lib.hid (HB11.out.trans (hb12.mono HB11.out.size))
          clear hb12
          obtain ⟨m2, hm2⟩ : ∃ z, mtO o2 = z := ⟨_, rfl⟩
          obtain ⟨s2, hs2⟩ : ∃ z, o2.isSome = z := ⟨_, rfl⟩
          rw [hm2, hs2]
          rw [hs2] at HF4
          clear hm2 hs2
          have hb13 : Below w12.heap.size w12 (w12.alloc (.cells #[.string m2.name, .slice qp mp dp, .int .i64 m2.ret.1, .string m2.ret.2, .bool m2.st, .bool m2.ab, .int .i64 m2.locals, .slice qc mc dc, .slice qh mh dh] 44)) := below_alR _ _
          have HB13 := Lib.hid (HB12.out.trans (hb13.mono HB12.out.size))
          clear hb13
          have hq1 := HF2.out
          have hq2 := HF4.out
          cases s1 <;> cases s2
          all_goals
            simp only [Bool.not_true, Bool.not_false] at hq1 hq2
            go_wp2_with fail
            go_ret
            exact ⟨rfl, HB9.out.trans (HB13.out.mono HB9.out.size)⟩
    | succ g =>
      have hlt : i < 3 := by omega
      have hlt4 : i < 4 := by omega
      have hlt' : (i : Int) < 3 := by omega
      have i0 : (0 : Int) ≤ (i : Int) := by omega
      have v0 : IntKind.u8.wrap (i : Int) = (i : Int) := IntWalk.u8_in _ (by omega)
      have v1 : IntKind.u8.wrap (65 + (i : Int)) = 65 + (i : Int) := IntWalk.u8_in _ (by omega)
      have kc := @conv_nm i hlt4
      have ks := sup_at3 i
      have kc1 := fun (X Y : Obj) => conv_nm i hlt4 wr.heap.size (((wr.alloc (.cells #[.int .u8 (65 + (i : Int))] 5)).alloc X).alloc Y).drew (nm_first wr _ X Y)
      have kc2 := fun (X Y : Obj) => conv_nm i hlt4 (wr.heap.size + 1) (((wr.alloc X).alloc (.cells #[.int .u8 (65 + (i : Int))] 5)).alloc Y).drew (nm_second wr _ X Y)
      have kc3 := fun (X Y : Obj) => conv_nm i hlt4 (wr.heap.size + 1 + 1) (((wr.alloc X).alloc Y).alloc (.cells #[.int .u8 (65 + (i : Int))] 5)).drew (nm_third wr _ X Y)
      obtain ⟨-, pva, cva, hva⟩ := HI.out.len
      rw [List.length_map, List.length_range] at hva
      subst hva
      go_upto_region 8 with fail
      go_cut [10] (fun s6 wx => ∃ x, s6 = .pointer (some ⟨x, 0, none⟩) ∧ wr.heap.size ≤ x ∧ Hid (wx.heap[x]? = some (.cells #[.string (nmV i), .string (supV i), .slice none 0 0, .int .i64 2, .slice none 0 0, .slice none 0 0] 50 (0, 0))) ∧ Hid (Below wr.heap.size wr wx))
      case first =>
        go_region_law (fail)
        all_goals
          go_wp2_with fail
          go_meet
          case rel => exact ⟨_, rfl, by omega, Lib.hid (by first | exact hp1 _ _ _ _ _ | exact hp2 _ _ _ _ _ | exact hp3 _ _ _ _ _), Lib.hid (hp_below _ _ _ _)⟩
      case rest =>
        obtain ⟨xb, rfl, hxb, HX, HBX⟩ := hcut
        clear kc ks kc1 kc2 kc3 v1
        obtain ⟨wq, hwq⟩ : ∃ z, z = wc := ⟨_, rfl⟩
        rw [← hwq] at HX HBX ⊢
        clear hwq
        obtain ⟨n, hn⟩ : ∃ z, nV p q r i = z := ⟨_, rfl⟩
        have HN := Lib.hid hn
        have hln : wq.cell? ⟨lb, i, none⟩ = some (.int .u8 (n : Int)) := by rw [← hn, (HBX.out.cell (p := ⟨lb, i, none⟩) (by have := HI.out.lt; show lb < _; omega)), (HB.out.cell (p := ⟨lb, i, none⟩) hla)]; exact HL.out i hlt
        have hll : lb < wq.heap.size := by have := HI.out.lt; have := HBX.out.size; omega
        clear hn
        obtain ⟨bA, hA⟩ : ∃ z, ((n : Int) == 1) = z := ⟨_, rfl⟩
        obtain ⟨bS, hS⟩ : ∃ z, ((n : Int) == 3) = z := ⟨_, rfl⟩
        go_upto_region 9 with fail
        go_cut [11] (fun s6 wx => s6 = .pointer (some ⟨wq.heap.size, 0, none⟩) ∧ Hid (wx.heap[wq.heap.size]? = some (.cells #[.string ⟨#[109]⟩, .slice none 0 0, .int .i64 5, .string ⟨#[]⟩, .bool bS, .bool bA, .int .i64 0, .slice none 0 0, .slice none 0 0] 44 (0, 0))) ∧ Hid (Below wq.heap.size wq wx))
        case first =>
          go_region_law (fail)
          all_goals
            go_wp2_with fail
            go_meet
            case rel => exact ⟨rfl, Lib.hid (heap_alloc_new wq _), Lib.hid ((below_alR wq _).drew)⟩
        case rest =>
          obtain ⟨rfl, HM, HBM⟩ := hcut
          have hzq := HBX.out.size
          have hzc := HBM.out.size
          have hln2 : wc.cell? ⟨lb, i, none⟩ = some (.int .u8 (n : Int)) := (HBM.out.cell (p := ⟨lb, i, none⟩) hll).trans hln
          have HBC := Lib.hid (HBX.out.trans (HBM.out.mono hzq))
          have hxq : xb < wq.heap.size := (Array.getElem?_eq_some_iff.1 HX.out).1
          have hxC : wc.heap[xb]? = _ := (HBM.out.block _ hxq).trans HX.out
          have HXC := Lib.hid hxC
          have hmC := HM.out
          have HHA := Lib.hid hA
          have HHS := Lib.hid hS
          have hll2 : lb < wc.heap.size := by omega
          clear hln hll hA hS hxC
          obtain ⟨mb, hmb⟩ : ∃ z, wq.heap.size = z := ⟨_, rfl⟩
          rw [hmb] at hmC hzq hzc hxq ⊢
          clear hmb
          have haw : a ≤ wr.heap.size := by have := HI.out.lt; omega
          obtain ⟨xl, xc, xf⟩ := boxN HXC.out
          have x5 := xc 5 _ rfl
          have z5 := xf 5
          obtain ⟨ml, mc, -⟩ := boxN hmC
          have m0 := mc 0 _ rfl
          have m1 := mc 1 _ rfl
          have m2 := mc 2 _ rfl
          have m3 := mc 3 _ rfl
          have m4 := mc 4 _ rfl
          have m5 := mc 5 _ rfl
          have m6 := mc 6 _ rfl
          have m7 := mc 7 _ rfl
          have m8 := mc 8 _ rfl
          simp only [Nat.zero_add] at x5 m0 m1 m2 m3 m4 m5 m6 m7 m8
          clear xc xf mc
          by_cases hn0 : 0 < n
          · have hnz : (0 : Int) < (n : Int) := by omega
            obtain ⟨wM, hwM⟩ : ∃ z, z = (wc.setCell ⟨xb, 5, none⟩ (.slice (some ⟨wc.heap.size, 0, none⟩) 1 1)).alloc (.cells #[.string ⟨#[109]⟩, .slice none 0 0, .int .i64 5, .string ⟨#[]⟩, .bool bS, .bool bA, .int .i64 0, .slice none 0 0, .slice none 0 0] 44) := ⟨_, rfl⟩
            have hk : Kpt [xb] wc (wc.setCell ⟨xb, 5, none⟩ (.slice (some ⟨wc.heap.size, 0, none⟩) 1 1)) := Kpt.set _ _ _ _ _ (by simp)
            have hbm : Below wc.heap.size (wc.setCell ⟨xb, 5, none⟩ (.slice (some ⟨wc.heap.size, 0, none⟩) 1 1)) wM := by rw [hwM]; exact (below_alR _ _).mono (by simp)
            have hxM : wM.heap[xb]? = some (.cells #[.string (nmV i), .string (supV i), .slice none 0 0, .int .i64 2, .slice none 0 0, .slice (some ⟨wc.heap.size, 0, none⟩) 1 1] 50 (0, 0)) := by rw [hbm.block _ xl, heap_setCell_same _ _ 5 _ _ _ HXC.out]; rfl
            have hmM : wM.heap[wc.heap.size]? = some (.cells #[.string ⟨#[109]⟩, .slice none 0 0, .int .i64 5, .string ⟨#[]⟩, .bool bS, .bool bA, .int .i64 0, .slice none 0 0, .slice none 0 0] 44 (0, 0)) := by rw [hwM]; have := heap_alloc_new (wc.setCell ⟨xb, 5, none⟩ (.slice (some ⟨wc.heap.size, 0, none⟩) 1 1)) (.cells #[.string ⟨#[109]⟩, .slice none 0 0, .int .i64 5, .string ⟨#[]⟩, .bool bS, .bool bA, .int .i64 0, .slice none 0 0, .slice none 0 0] 44); rwa [World.size_setCell] at this
            have hzw : wr.heap.size ≤ wc.heap.size := HBC.out.size
            have hbM : Below wr.heap.size wr wM := (HBC.out.trans (hk.below (B := wr.heap.size) (fun z hz => by rw [List.mem_singleton.1 hz]; exact hxb) hzw)).trans (hbm.mono hzw)
            have HIA : Hid (ArB wM a a (.slice pva i cva) (.slice none 0 0) rs _ []) := Lib.hid (HI.out.below hbM)
            have HBA := Lib.hid (HB.out.trans (hbM.mono haw))
            have HXA := Lib.hid hxM
            have HMV : Hid (RdX 9 mP (okV a a (.slice pva i cva) (.slice none 0 0)) wM (.slice (some ⟨wc.heap.size, 0, none⟩) 1 1) (msV (nV p q r i))) := Lib.hid (by
              rw [HN.out]
              unfold msV
              rw [if_pos hn0]
              have h3 := HI.out.2.2.1.lt
              have h4 := HI.out.lt
              refine rd_block (P := mP) [[.string ⟨#[109]⟩, .slice none 0 0, .int .i64 5, .string ⟨#[]⟩, .bool bS, .bool bA, .int .i64 0, .slice none 0 0, .slice none 0 0]] [mV n] _ hmM rfl ⟨by omega, by omega, fun e => by have := (h3 _ e).2; omega, fun e => by simp [Value.ownBlock] at e⟩ ⟨⟨⟨.slice none 0 0, .slice none 0 0, .slice none 0 0, ?_, RdX.nil _ _ _ _, RdX.nil _ _ _ _, RdX.nil _ _ _ _⟩, rfl⟩, trivial⟩ 1 1 rfl (Nat.le_refl _)
              rw [← HHA.out, ← HHS.out]
              rfl)
            clear hk hbm hxM hmM hbM
            go_upto_region 12 with fail
            rw [← hwM]
            clear hwM x5 z5 xl m0 m1 m2 m3 m4 m5 m6 m7 m8 ml
            obtain ⟨wA, hwA⟩ : ∃ z, z = wM := ⟨_, rfl⟩
            rw [← hwA] at HIA HBA HXA HMV ⊢
            clear hwA hln2 hll2
            obtain ⟨yl, yc, -⟩ := boxN HXA.out
            have y0 := yc 0 _ rfl
            have y1 := yc 1 _ rfl
            have y2 := yc 2 _ rfl
            have y3 := yc 3 _ rfl
            have y4 := yc 4 _ rfl
            have y5 := yc 5 _ rfl
            simp only [Nat.zero_add] at y0 y1 y2 y3 y4 y5
            obtain ⟨al, a0, az⟩ := HIA.out.cells
            clear yc
            obtain ⟨rX, hrX⟩ : ∃ r : Raw 6, rawC r = [.string (nmV i), .string (supV i), .slice none 0 0, .int .i64 2, .slice none 0 0, .slice (some ⟨wc.heap.size, 0, none⟩) 1 1] := ⟨⟨[.string (nmV i), .string (supV i), .slice none 0 0, .int .i64 2, .slice none 0 0, .slice (some ⟨wc.heap.size, 0, none⟩) 1 1], rfl, by simp [Value.oneCell']⟩, rfl⟩
            have hcp : cP (okV a a (.slice pva i cva) (.slice none 0 0)) wA (rawC rX) (clsW p q r i) := by rw [hrX]; exact ⟨_, _, _, rfl, RdX.nil _ _ _ _, RdX.nil _ _ _ _, HMV.out⟩
            have hIW := HIA.out.below (below_alR wA (.cells #[.string (nmV i), .string (supV i), .slice none 0 0, .int .i64 2, .slice none 0 0, .slice (some ⟨wc.heap.size, 0, none⟩) 1 1] 50))
            have HCW := Lib.hid (cP.grow _ _ _ (wA.alloc (.cells #[.string (nmV i), .string (supV i), .slice none 0 0, .int .i64 2, .slice none 0 0, .slice (some ⟨wc.heap.size, 0, none⟩) 1 1] 50)) _ _ hcp (fun _ h _ => h) (.of_below (below_alR _ _)) (below_alR _ _).size)
            have HSR := Lib.hid (rdX_lit1 rawC_len wA rX #[.string (nmV i), .string (supV i), .slice none 0 0, .int .i64 2, .slice none 0 0, .slice (some ⟨wc.heap.size, 0, none⟩) 1 1] 50 (by rw [hrX]))
            have HIW := Lib.hid hIW
            have HOW := Lib.hid hIW.2.2.1
            have hzA := HBA.out.size
            have haA : a ≤ wA.heap.size := by have := HA0.out; omega
            have hrl := HIA.out.len.1
            rw [List.length_map, List.length_range] at hrl
            have hrl2 : rs.length + 1 ≤ 1000000 := by omega
            have HRL := Lib.hid hrl2
            clear hcp hIW hrl hrl2
            go_wp2_with (at_builtin; refine wp_appM inf_cls (shape_raw 6) rfl _ _ rfl a _ rs rfl HOW.out _ 0 1 1 [rX] rfl HSR.out HRL.out (by simp; omega) ?_)
            intro v6 w6 ho6 hg6 hl6
            obtain ⟨e1, e2, e3, hI6, hB6⟩ := HIW.out.app (by simp; omega) HCW.out ho6 hg6 (by simpa using hl6)
            obtain ⟨pq, nq, cq, hv6⟩ := ho6.slice
            subst hv6
            have HI6 : Hid (ArB (w6.setCell ⟨a, 0, none⟩ (.slice pq nq cq)) a a (.slice pq nq cq) (.slice none 0 0) (rs ++ [rX]) ((List.range (i + 1)).map (clsW p q r)) []) := Lib.hid (by rw [clsW_next]; exact hI6)
            have HB6 : Hid (Below a w2 (w6.setCell ⟨a, 0, none⟩ (.slice pq nq cq))) := Lib.hid (HBA.out.trans (((below_alR wA (.cells #[.string (nmV i), .string (supV i), .slice none 0 0, .int .i64 2, .slice none 0 0, .slice (some ⟨wc.heap.size, 0, none⟩) 1 1] 50)).mono haA).trans hB6))
            clear hI6 hB6 ho6 hg6 hl6 y0 y1 y2 y3 y4 y5 yl al a0 az
            go_wp2_with fail
            obtain ⟨w7, hw7⟩ : ∃ z, z = w6.setCell ⟨a, 0, none⟩ (.slice pq nq cq) := ⟨_, rfl⟩
            rw [← hw7] at HI6 HB6 ⊢
            clear hw7 e1 e2 e3
            go_roundg g
            case measure => omega
            case rel => exact ⟨i + 1, _, _, by go_num, by omega, HI6, HB6⟩
          · have hnz : ¬ (0 : Int) < (n : Int) := by omega
            have HIA : Hid (ArB wc a a (.slice pva i cva) (.slice none 0 0) rs _ []) := Lib.hid (HI.out.below HBC.out)
            have HBA := Lib.hid (HB.out.trans (HBC.out.mono haw))
            have HXA := HXC
            have HMV : Hid (RdX 9 mP (okV a a (.slice pva i cva) (.slice none 0 0)) wc (.slice none 0 0) (msV (nV p q r i))) := Lib.hid (by
              rw [HN.out]
              unfold msV
              rw [if_neg hn0]
              exact RdX.nil _ _ _ _)
            go_upto_region 12 with fail
            clear x5 z5 xl m0 m1 m2 m3 m4 m5 m6 m7 m8 ml hln2 hll2
            obtain ⟨wA, hwA⟩ : ∃ z, z = wc := ⟨_, rfl⟩
            rw [← hwA] at HIA HBA HXA HMV ⊢
            clear hwA
            obtain ⟨yl, yc, -⟩ := boxN HXA.out
            have y0 := yc 0 _ rfl
            have y1 := yc 1 _ rfl
            have y2 := yc 2 _ rfl
            have y3 := yc 3 _ rfl
            have y4 := yc 4 _ rfl
            have y5 := yc 5 _ rfl
            simp only [Nat.zero_add] at y0 y1 y2 y3 y4 y5
            obtain ⟨al, a0, az⟩ := HIA.out.cells
            clear yc
            obtain ⟨rX, hrX⟩ : ∃ r : Raw 6, rawC r = [.string (nmV i), .string (supV i), .slice none 0 0, .int .i64 2, .slice none 0 0, .slice none 0 0] := ⟨⟨[.string (nmV i), .string (supV i), .slice none 0 0, .int .i64 2, .slice none 0 0, .slice none 0 0], rfl, by simp [Value.oneCell']⟩, rfl⟩
            have hcp : cP (okV a a (.slice pva i cva) (.slice none 0 0)) wA (rawC rX) (clsW p q r i) := by rw [hrX]; exact ⟨_, _, _, rfl, RdX.nil _ _ _ _, RdX.nil _ _ _ _, HMV.out⟩
            have hIW := HIA.out.below (below_alR wA (.cells #[.string (nmV i), .string (supV i), .slice none 0 0, .int .i64 2, .slice none 0 0, .slice none 0 0] 50))
            have HCW := Lib.hid (cP.grow _ _ _ (wA.alloc (.cells #[.string (nmV i), .string (supV i), .slice none 0 0, .int .i64 2, .slice none 0 0, .slice none 0 0] 50)) _ _ hcp (fun _ h _ => h) (.of_below (below_alR _ _)) (below_alR _ _).size)
            have HSR := Lib.hid (rdX_lit1 rawC_len wA rX #[.string (nmV i), .string (supV i), .slice none 0 0, .int .i64 2, .slice none 0 0, .slice none 0 0] 50 (by rw [hrX]))
            have HIW := Lib.hid hIW
            have HOW := Lib.hid hIW.2.2.1
            have hzA := HBA.out.size
            have haA : a ≤ wA.heap.size := by have := HA0.out; omega
            have hrl := HIA.out.len.1
            rw [List.length_map, List.length_range] at hrl
            have hrl2 : rs.length + 1 ≤ 1000000 := by omega
            have HRL := Lib.hid hrl2
            clear hcp hIW hrl hrl2
            go_wp2_with (at_builtin; refine wp_appM inf_cls (shape_raw 6) rfl _ _ rfl a _ rs rfl HOW.out _ 0 1 1 [rX] rfl HSR.out HRL.out (by simp; omega) ?_)
            intro v6 w6 ho6 hg6 hl6
            obtain ⟨e1, e2, e3, hI6, hB6⟩ := HIW.out.app (by simp; omega) HCW.out ho6 hg6 (by simpa using hl6)
            obtain ⟨pq, nq, cq, hv6⟩ := ho6.slice
            subst hv6
            have HI6 : Hid (ArB (w6.setCell ⟨a, 0, none⟩ (.slice pq nq cq)) a a (.slice pq nq cq) (.slice none 0 0) (rs ++ [rX]) ((List.range (i + 1)).map (clsW p q r)) []) := Lib.hid (by rw [clsW_next]; exact hI6)
            have HB6 : Hid (Below a w2 (w6.setCell ⟨a, 0, none⟩ (.slice pq nq cq))) := Lib.hid (HBA.out.trans (((below_alR wA (.cells #[.string (nmV i), .string (supV i), .slice none 0 0, .int .i64 2, .slice none 0 0, .slice none 0 0] 50)).mono haA).trans hB6))
            clear hI6 hB6 ho6 hg6 hl6 y0 y1 y2 y3 y4 y5 yl al a0 az
            go_wp2_with fail
            obtain ⟨w7, hw7⟩ : ∃ z, z = w6.setCell ⟨a, 0, none⟩ (.slice pq nq cq) := ⟨_, rfl⟩
            rw [← hw7] at HI6 HB6 ⊢
            clear hw7 e1 e2 e3
            go_roundg g
            case measure => omega
            case rel => exact ⟨i + 1, _, _, by go_num, by omega, HI6, HB6⟩
end Go.Proofs.Ytjegocecgncpkaa.R
