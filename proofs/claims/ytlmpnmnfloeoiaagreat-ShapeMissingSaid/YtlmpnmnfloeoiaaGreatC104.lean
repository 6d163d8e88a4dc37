/- Texts that the proof is made of, joined. No condition. -/
import Derived.Test.YtlmpnmnfloeoiaaGreatC103
import Derived.Test.YtlmpnmnfloeoiaaGreatC101
import Derived.IntWalk
import Derived.Test.YtlmpnmnfloeoiaaGreatC10H
set_option linter.unusedVariables false
set_option linter.unusedSimpArgs false
set_option maxRecDepth 100000
set_option maxHeartbeats 16000000
namespace Go.Proofs.YtlmpnmnfloeoiaaGreat.R
open Go.RowKit Go.Proofs.YtlmpnmnfloeoiaaGreat.D Go.Proofs.YtlmpnmnfloeoiaaGreat.O Go.Proofs.YtlmpnmnfloeoiaaGreat.A
theorem own_rdX {w : World} {B : Nat} {v : Value} {xs : List ByteArray} {T : TypeId} (h : S.OwnC S.cS T w B v xs) : RdX 1 (sP strC) (fun b => B ≤ b) w v xs := by
  rcases h.cells with ⟨rfl, rfl⟩ | ⟨g, cap, cur, rfl, hb, hlt, _, h1, _, h3, _⟩
  · exact RdX.nil _ _ _ _
  · refine ⟨_, cap, rfl, h1, (fun e => by cases e), .inr ⟨g, 0, rfl, hb, hlt, fun i x hx => ⟨_, rfl, fun j u hu => ?_⟩⟩⟩
    cases j with
    | zero =>
      simp only [strC, List.getElem?_cons_zero, Option.some.injEq] at hu
      subst hu
      have := h3 i x hx
      rwa [Nat.zero_add, Nat.mul_one, Nat.add_zero]
    | succ j => simp [strC] at hu
theorem Chain_t (ok : Nat → Prop) (tb mt : Nat) (vs : Value) (K : List Cls) (n : ByteArray) (w : World) (h : TrW w ok tb mt vs K) (hn : n.size ≤ maxLen) :
    Calls Tryz.prog 41 #[.pointer (some ⟨tb, 0, none⟩), .string n] w fun e w' => ∃ p c, e = .returned (.slice p (chainT (K.map skOf) n).1.length c) ∧ S.OwnC S.cS 9 w' w.heap.size (.slice p (chainT (K.map skOf) n).1.length c) (chainT (K.map skOf) n).1 ∧ Below w.heap.size w w' := by
  go_enter Tryz.func41, Tryz.ntmps41
  go_wp2_with fail
  refine (chain_t ok tb mt vs K n w h hn).mono ?_
  rintro e w1 ⟨p, c, rfl, ho, hb⟩
  have HO := Lib.hid ho
  have HB := Lib.hid hb
  clear ho hb h
  go_wp2_with fail
  go_ret
  exact ⟨_, _, rfl, HO.out, HB.out⟩
set_option maxHeartbeats 1000000 in
set_option maxRecDepth 100000 in
theorem index_t (x : ByteArray) (l : List ByteArray) (p : Option Addr) (c : Nat) (ok : Nat → Prop) (w : World) (hr : RdX 1 (sP strC) ok w (.slice p l.length c) l) (hl : l.length ≤ 1000000) :
    Calls Tryz.prog 97 #[.slice p l.length c, .string x] w fun e w' => (∃ r : Int, e = .returned (.int .i64 r) ∧ decide (0 ≤ r) = S.hasB l x) ∧ Below w.heap.size w w' := by
  have hcap : l.length ≤ c := by obtain ⟨_, _, e, h, _⟩ := hr; simp only [Value.slice.injEq] at e; rw [e.2.2]; exact h
  have HR := Lib.hid hr
  clear hr
  go_enter Tryz.func97, Tryz.ntmps97
  go_wp2_with fail
  go_loopw [8] (fun v wr => ∃ i : Nat, v = .int .i64 (i : Int) ∧ i ≤ l.length ∧ Hid (x ∉ l.take i) ∧ wr = w) (fun v _ => l.length - (intOf v).toNat)
  case atStart => exact ⟨0, rfl, by omega, Lib.hid (by simp), rfl⟩
  case round =>
    obtain ⟨i, rfl, hi, HX, rfl⟩ := hrel
    by_cases hlt : i < l.length
    · obtain ⟨y, hy⟩ : ∃ y, l[i]? = some y := ⟨_, List.getElem?_eq_getElem hlt⟩
      obtain ⟨b, off, rfl, -, -, hb, hbl, hc⟩ := rdX_at HR.out hy
      have hlt' : (i : Int) < (l.length : Int) := by omega
      have i0 : (0 : Int) ≤ (i : Int) := by omega
      have HY := Lib.hid hy
      clear hy
      by_cases hxy : x = y
      · subst hxy
        have he := Go.Proofs.YtlmpnmnfloeoiaaGreat.txt_eq (rfl : x = x)
        go_wp2_with fail
        go_ret
        exact ⟨⟨_, rfl, by rw [S.hasB_in (List.mem_of_getElem? HY.out)]; exact decide_eq_true i0⟩, Below.refl _ _⟩
      · have he := Go.Proofs.YtlmpnmnfloeoiaaGreat.txt_ne hxy
        go_wp2_with fail
        go_roundw
        case rel => exact ⟨i + 1, by go_num, by omega, Lib.hid (by
          obtain ⟨hi', e⟩ := List.getElem?_eq_some_iff.1 HY.out
          rw [List.take_succ_eq_append_getElem hi', e, List.mem_append]
          simp only [List.mem_singleton, not_or]
          exact ⟨HX.out, hxy⟩), by first | rfl | trivial⟩
        case measure => simp [intOf]; omega
    · have hlt' : ¬ (i : Int) < (l.length : Int) := by omega
      obtain rfl : i = l.length := by omega
      go_wp2_with fail
      go_ret
      have hx := HX.out
      rw [List.take_length] at hx
      exact ⟨⟨_, rfl, by rw [S.hasB_out hx]; decide⟩, Below.refl _ _⟩
theorem contains_t (x : ByteArray) (l : List ByteArray) (p : Option Addr) (c : Nat) (ok : Nat → Prop) (w : World) (hr : RdX 1 (sP strC) ok w (.slice p l.length c) l) (hl : l.length ≤ 1000000) :
    Calls Tryz.prog 64 #[.slice p l.length c, .string x] w fun e w' => e = .returned (.bool (S.hasB l x)) ∧ Below w.heap.size w w' := by
  go_enter Tryz.func64, Tryz.ntmps64
  go_wp2_with fail
  refine (index_t x l p c ok w hr hl).mono ?_
  rintro e w1 ⟨⟨r, rfl, hrr⟩, hb⟩
  have HB := Lib.hid hb
  have HRR := Lib.hid hrr
  clear hb hr hrr
  go_wp2_with fail
  go_ret
  exact ⟨D.ret_bool (by rw [← HRR.out]), HB.out⟩
theorem wp_appR {w : World} {ops : Array Oper} {rest : List Oper} {o : Oper} {a : Act} {Q : Exit → Act → World → Prop} (hgd : o.guard = none) (s x : Operand)
    (ho : o.op = .call { callee := .builtin .append, args := #[s, x], argTypes := #[23, 23] })
    (B : Nat) (v : Value) (xs : List ByteArray) (hs : a.eval s = v) (hown : S.OwnC S.cS 9 w B v xs) (ok : Nat → Prop) (v2 : Value) (ys : List ByteArray) (hx : a.eval x = v2) (hy : RdX 1 (sP strC) ok w v2 ys)
    (hb : xs.length + ys.length ≤ 1000000) (hbase : B ≤ w.heap.size)
    (h : ∀ v' w', S.OwnC S.cS 9 w' B v' (xs ++ ys) → w.grownBy w' v.ownBlock → (v'.ownBlock = v.ownBlock ∨ v'.ownBlock = some w.heap.size) → wpList Tryz.prog ops Q rest (a.put o.dst v') w') :
    wpList Tryz.prog ops Q (o :: rest) a w := by
  have hy' := hy
  obtain ⟨p, cap, e2, hle, hnone, hcs⟩ := hy
  by_cases hcap : cap ≤ maxLen
  · refine S.wp_appC S.infS (fun _ => rfl) hgd s x ho B v xs hs hown ok v2 ys hx ⟨p, cap, e2, hle, hnone, hcap, ?_⟩ hb hbase h
    rcases hcs with hcs | ⟨b, off, rfl, hb, hlt, _⟩
    · exact .inl hcs
    · refine .inr ⟨b, off, rfl, hb, hlt, fun i y hi => ?_⟩
      subst e2
      obtain ⟨b', off', e', _, _, _, _, hc⟩ := rdX_at hy' hi
      cases e'
      exact hc
  · obtain ⟨hi1, hu, hz, hbb⟩ := S.infS
    obtain ⟨i0, hi, hz0, hz1, hz2⟩ := info_parts hi1
    subst e2
    cases p with
    | none =>
      have hc0 := hnone rfl
      rw [hc0] at hcap
      exact absurd (Nat.zero_le _) hcap
    | some ad =>
      refine wpList_append_own_at w hgd s x 23 ho B 9 i0 _ 1 16 hu hi hz0 hz1 hz2 hz (by decide) v xs.length (xs.map S.cS) hs hown ad ys.length cap (ys.map S.cS) hx (by simp) ?_ (by simp [Value.oneCell']) (by unfold maxLen; omega) (by omega) hbase ?_
      · intro j u hj
        rw [List.getElem?_map, Option.map_eq_some_iff] at hj
        obtain ⟨y, hy1, rfl⟩ := hj
        obtain ⟨b', off', e', _, _, _, _, hc⟩ := rdX_at hy' hy1
        cases e'
        rw [S.add_add _ j rfl]
        exact hc
      · intro v' w' g1 g2 _ g4
        refine h v' w' ?_ g2 g4
        unfold S.OwnC
        rw [List.length_append, List.map_append]
        exact g1
set_option maxHeartbeats 4000000 in
set_option maxRecDepth 100000 in
theorem Ifaces_t (ok : Nat → Prop) (tb mt : Nat) (vs : Value) (K : List Cls) (n : ByteArray) (w : World) (h : TrW w ok tb mt vs K) (hn : n.size ≤ maxLen) :
    Calls Tryz.prog 43 #[.pointer (some ⟨tb, 0, none⟩), .string n] w fun e w' => ∃ p c, e = .returned (.slice p (ifacesT (K.map skOf) n).length c) ∧ S.OwnC S.cS 9 w' w.heap.size (.slice p (ifacesT (K.map skOf) n).length c) (ifacesT (K.map skOf) n) ∧ Below w.heap.size w w' := by
  obtain ⟨R, hR⟩ : ∃ x, ifacesT (K.map skOf) n = x := ⟨_, rfl⟩
  obtain ⟨T, hT⟩ : ∃ x, K.map skOf = x := ⟨_, rfl⟩
  have HT := Lib.hid h
  have HS : Hid (SzT T) := Lib.hid (by rw [← hT]; exact h.2.2.2.2.2)
  have HR : Hid (closedT T (wideT T n) = R) := Lib.hid (by rw [← hT]; exact hR)
  have HTT := Lib.hid hT
  rw [hR]
  clear h hR hT
  have HW := Lib.hid (HS.out.wide n)
  have HKC := Lib.hid (chain_kn T n)
  have hclen := HKC.out.len
  have hTl := HS.out.1
  go_enter Tryz.func43, Tryz.ntmps43
  go_wp2_with fail
  refine (Chain_t ok tb mt vs K n w HT.out hn).mono ?_
  rw [HTT.out]
  rintro e w1 ⟨p, c, rfl, ho, hb⟩
  obtain ⟨l, hl⟩ : ∃ l, (chainT T n).1 = l := ⟨_, rfl⟩
  have HWT : Hid (wideT T n = l.flatMap (ifsT T)) := Lib.hid (by rw [← hl]; rfl)
  rw [hl] at ho hclen HKC ⊢
  clear hl
  have HL := Lib.hid (own_rdX ho)
  have hcap : l.length ≤ c := by obtain ⟨_, _, e, h, _⟩ := HL.out; simp only [Value.slice.injEq] at e; rw [e.2.2]; exact h
  have HB := Lib.hid hb
  clear ho hb
  have hz1 := HB.out.size
  go_wp2_with fail
  go_loopw [5, 12] (fun v x wr => ∃ i : Nat, x = .int .i64 (i : Int) ∧ i ≤ l.length ∧ Hid (S.OwnC S.cS 9 wr w1.heap.size v ((l.take i).flatMap (ifsT T))) ∧ Hid (Below w1.heap.size w1 wr)) (fun _ x _ => l.length - (intOf x).toNat)
  case atStart => exact ⟨0, rfl, by omega, Lib.hid (S.OwnC.nil _ _), Lib.hid (Below.refl _ _)⟩
  case round =>
    obtain ⟨i, rfl, hi, HO, HBr⟩ := hrel
    by_cases hlt : i < l.length
    · obtain ⟨y, hy⟩ : ∃ y, l[i]? = some y := ⟨_, List.getElem?_eq_getElem hlt⟩
      obtain ⟨b, off, rfl, -, -, hbk, hbl, hc⟩ := rdX_at HL.out hy
      have hlt' : (i : Int) < (l.length : Int) := by omega
      have i0 : (0 : Int) ≤ (i : Int) := by omega
      have hc2 : wr.cell? ⟨b, off + i, none⟩ = some (.string y) := (HBr.out.cell hbl).trans hc
      have hym := HS.out.kn HKC.out y (List.mem_of_getElem? hy)
      have HE : Hid ((l.take (i + 1)).flatMap (ifsT T) = (l.take i).flatMap (ifsT T) ++ ifsT T y) := Lib.hid (by
        obtain ⟨hi', e⟩ := List.getElem?_eq_some_iff.1 hy
        rw [List.take_succ_eq_append_getElem hi', e, List.flatMap_append]; simp)
      have hfl : ((l.take i).flatMap (ifsT T)).length + (ifsT T y).length ≤ 1000000 := by
        have h1 := flat_few HS.out (l.take i)
        have h2 := (HS.out.ifs y).1
        have h3 : (l.take i).length ≤ l.length := by rw [List.length_take]; omega
        omega
      have HFL := Lib.hid hfl
      obtain ⟨va, vn, vk, hv⟩ := HO.out.slice
      have HV := Lib.hid hv
      clear hy hc hfl hv
      go_wp2_with fail
      refine (own_t ok tb mt vs K y wr (HT.out.below (HB.out.trans (HBr.out.mono hz1))) hym).mono ?_
      rw [HTT.out]
      rintro e w2 ⟨q, c2, rfl, hr2, hb2⟩
      have HR2 := Lib.hid (hr2.any (sP.grow _) hb2)
      have HO2 := Lib.hid (HO.out.kpt (S.Kpt.of_below (S := []) hb2) (by simp))
      have HB2 := Lib.hid (HBr.out.trans (hb2.mono HBr.out.size))
      have hz2 := HB2.out.size
      clear hr2 hb2 HO HBr hc2
      go_wp2_with (at_builtin; refine wp_appR rfl _ _ rfl w1.heap.size _ _ rfl HO2.out ok _ (ifsT T y) rfl HR2.out HFL.out hz2 ?_)
      intro v3 w3 ho3 hg3 hl3
      have k3 : S.Kpt _ w2 w3 := .of_grown (S := _) hg3 (fun g e => .inl (by rw [e]; exact List.mem_singleton.2 rfl : g ∈ (Option.toList (Value.ownBlock _))))
      have HO3 : Hid (S.OwnC S.cS 9 w3 w1.heap.size v3 ((l.take (i + 1)).flatMap (ifsT T))) := Lib.hid (by rw [HE.out]; exact ho3)
      have HB3 : Hid (Below w1.heap.size w1 w3) := Lib.hid (HB2.out.trans (k3.below (fun x hx => (HO2.out.lt x (by simpa using hx)).1) hz2))
      clear ho3 hg3 hl3 k3 HO2 HR2 HB2
      go_wp2_with fail
      go_roundw
      case rel => exact ⟨i + 1, by go_num, by omega, HO3, HB3⟩
      case measure => simp [intOf]; omega
    · have hlt' : ¬ (i : Int) < (l.length : Int) := by omega
      obtain rfl : i = l.length := by omega
      rw [List.take_length, ← HWT.out] at HO
      obtain ⟨pv, kv, hv, -⟩ := HO.out.rd.form
      subst hv
      have hbw := HB.out.trans (HBr.out.mono hz1)
      go_wp2_with fail
      refine (closed_t ok tb mt vs K wr (HT.out.below hbw) (wideT T n) pv kv _ (own_rdX HO.out) HW.out.1 HW.out.2).mono ?_
      rw [HTT.out, HR.out]
      rintro e w2 ⟨q, c2, rfl, ho2, hb2⟩
      have HO2 := Lib.hid (ho2.mono hbw.size)
      have HB2 := Lib.hid (hbw.trans (hb2.mono hbw.size))
      clear ho2 hb2 hbw
      go_wp2_with fail
      go_ret
      exact ⟨_, _, rfl, HO2.out, HB2.out⟩
end Go.Proofs.YtlmpnmnfloeoiaaGreat.R
namespace Go.Proofs.YtlmpnmnfloeoiaaGreat.R
open Go.RowKit Go.Proofs.YtlmpnmnfloeoiaaGreat.D Go.Proofs.YtlmpnmnfloeoiaaGreat.O Go.Proofs.YtlmpnmnfloeoiaaGreat.A
theorem SzT.closed {T : List Sk} (h : SzT T) (l : List ByteArray) : (closedT T l).length ≤ 2000 := by
  have h1 := (closed_kn T l).len
  have h2 := h.1
  omega
set_option maxHeartbeats 4000000 in
set_option maxRecDepth 100000 in
theorem Loops_t (ok : Nat → Prop) (tb mt : Nat) (vs : Value) (K : List Cls) (n : ByteArray) (w : World) (h : TrW w ok tb mt vs K) (hn : n.size ≤ maxLen) :
    Calls Tryz.prog 36 #[.pointer (some ⟨tb, 0, none⟩), .string n] w fun e w' => e = .returned (.bool (loopsT (K.map skOf) n)) ∧ Below w.heap.size w w' := by
  have HT := Lib.hid h
  have HS := Lib.hid h.2.2.2.2.2
  have HI := Lib.hid (HS.out.ifs n)
  have hcl := HS.out.closed (ifsT (K.map skOf) n)
  clear h
  cases hc : (chainT (K.map skOf) n).2 with
  | true =>
    have HR : Hid (loopsT (K.map skOf) n = true) := Lib.hid (by unfold loopsT; rw [hc]; rfl)
    go_enter Tryz.func36, Tryz.ntmps36
    go_wp2_with fail
    refine (chain_t ok tb mt vs K n w HT.out hn).mono ?_
    rw [hc]
    rintro e w1 ⟨p, c, rfl, ho, hb⟩
    have HB := Lib.hid hb
    clear ho hb
    go_wp2_with fail
    go_ret
    exact ⟨by rw [HR.out]; rfl, HB.out⟩
  | false =>
    have HR : Hid (loopsT (K.map skOf) n = S.hasB (closedT (K.map skOf) (ifsT (K.map skOf) n)) n) := Lib.hid (by unfold loopsT; rw [hc]; rfl)
    go_enter Tryz.func36, Tryz.ntmps36
    go_wp2_with fail
    refine (chain_t ok tb mt vs K n w HT.out hn).mono ?_
    rw [hc]
    rintro e w1 ⟨p, c, rfl, ho, hb⟩
    have HB := Lib.hid hb
    clear ho hb
    go_wp2_with fail
    refine (own_t ok tb mt vs K n w1 (HT.out.below HB.out) hn).mono ?_
    rintro e w2 ⟨q, c2, rfl, hr2, hb2⟩
    have HR2 := Lib.hid (hr2.any (sP.grow _) hb2)
    have HB2 := Lib.hid (HB.out.trans (hb2.mono HB.out.size))
    clear hr2 hb2 HB
    go_wp2_with fail
    refine (closed_t ok tb mt vs K w2 (HT.out.below HB2.out) _ q c2 _ HR2.out (by have := HI.out.1; omega) HI.out.2).mono ?_
    rintro e w3 ⟨q3, c3, rfl, ho3, hb3⟩
    have HO3 := Lib.hid (own_rdX ho3)
    have HB3 := Lib.hid (HB2.out.trans (hb3.mono HB2.out.size))
    clear ho3 hb3 HB2 HR2
    go_wp2_with fail
    refine (contains_t n _ q3 c3 _ w3 HO3.out (by omega)).mono ?_
    rintro e w4 ⟨rfl, hb4⟩
    have HB4 := Lib.hid (HB3.out.trans (hb4.mono HB3.out.size))
    clear hb4 HB3 HO3
    go_wp2_with fail
    go_ret
    exact ⟨by rw [HR.out]; rfl, HB4.out⟩
theorem obj_eq {b : ByteArray} (h : b = objT) : (b.toList == [79, 98, 106, 101, 99, 116]) = true := tl_eq #[79, 98, 106, 101, 99, 116] h
theorem obj_ne {b : ByteArray} (h : b ≠ objT) : (b.toList == [79, 98, 106, 101, 99, 116]) = false := tl_ne #[79, 98, 106, 101, 99, 116] h
end Go.Proofs.YtlmpnmnfloeoiaaGreat.R
namespace Go.Proofs.YtlmpnmnfloeoiaaGreat.A
open Go.RowKit Go.Proofs.YtlmpnmnfloeoiaaGreat.D Go.Proofs.YtlmpnmnfloeoiaaGreat.O
def InsAns (x : Ins) (w : World) (e : Ending) (w' : World) : Prop := e = .returned (insV x) ∧ Below w.heap.size w w'
theorem one_v (o : Int) (w : World) : Calls Tryz.prog 27 #[.int .i64 o] w (InsAns (iOne o) w) := by
  go_enter Tryz.func27, Tryz.ntmps27
  go_wp2
  refine bodyPost_ret (v := insV (iOne o)) (by simp [results, Tryz.results27, go_sem, insV, iOne, es]) rfl ⟨rfl, ?_⟩
  exact (Below.refl _ _).alloc (Nat.le_refl _) _
theorem at_v (o k : Int) (w : World) : Calls Tryz.prog 28 #[.int .i64 o, .int .i64 k] w (InsAns (iAt o k) w) := by
  go_enter Tryz.func28, Tryz.ntmps28
  go_wp2
  refine bodyPost_ret (v := insV (iAt o k)) (by simp [results, Tryz.results28, go_sem, insV, iAt, es]) rfl ⟨rfl, ?_⟩
  exact (Below.refl _ _).alloc (Nat.le_refl _) _
theorem num_v (n : Int) (w : World) (hn : -2147483648 ≤ n ∧ n ≤ 2147483647) : Calls Tryz.prog 52 #[.int .i64 n] w (InsAns (iNum n) w) := by
  go_enter Tryz.func52, Tryz.ntmps52
  go_wp2
  refine bodyPost_ret (v := insV (iNum n)) (by simp [results, Tryz.results52, go_sem, insV, iNum, es]) rfl ⟨rfl, ?_⟩
  exact (Below.refl _ _).alloc (Nat.le_refl _) _
theorem str_v (s : ByteArray) (w : World) : Calls Tryz.prog 53 #[.string s] w (InsAns (iStr s) w) := by
  go_enter Tryz.func53, Tryz.ntmps53
  go_wp2
  refine bodyPost_ret (v := insV (iStr s)) (by simp [results, Tryz.results53, go_sem, insV, iStr, es]) rfl ⟨rfl, ?_⟩
  exact (Below.refl _ _).alloc (Nat.le_refl _) _
theorem of_v (o : Int) (c : ByteArray) (w : World) : Calls Tryz.prog 26 #[.int .i64 o, .string c] w (InsAns (iOf o c) w) := by
  go_enter Tryz.func26, Tryz.ntmps26
  go_wp2
  refine bodyPost_ret (v := insV (iOf o c)) (by simp [results, Tryz.results26, go_sem, insV, iOf, es]) rfl ⟨rfl, ?_⟩
  exact (Below.refl _ _).alloc (Nat.le_refl _) _
theorem part_v (o : Int) (c m : ByteArray) (w : World) : Calls Tryz.prog 58 #[.int .i64 o, .string c, .string m] w (InsAns (iPart o c m) w) := by
  go_enter Tryz.func58, Tryz.ntmps58
  go_wp2
  refine bodyPost_ret (v := insV (iPart o c m)) (by simp [results, Tryz.results58, go_sem, insV, iPart, es]) rfl ⟨rfl, ?_⟩
  exact (Below.refl _ _).alloc (Nat.le_refl _) _
theorem call_v (o : Int) (c m d : ByteArray) (w : World) : Calls Tryz.prog 57 #[.int .i64 o, .string c, .string m, .string d] w (InsAns (iCall o c m d) w) := by
  go_enter Tryz.func57, Tryz.ntmps57
  go_wp2
  refine bodyPost_ret (v := insV (iCall o c m d)) (by simp [results, Tryz.results57, go_sem, insV, iCall, es]) rfl ⟨rfl, ?_⟩
  exact (Below.refl _ _).alloc (Nat.le_refl _) _
def BdP (w : World) (B bb : Nat) (vl vh : Value) (st : BS) : Prop :=
  w.heap[bb]? = some (.cells #[vl, vh] 112 (0, 0)) ∧ B ≤ bb ∧ OwnX 7 76 (sP insC) w B vl st.1 ∧ OwnX 4 87 (sP hndC) w B vh st.2 ∧
  vl.ownBlock ≠ some bb ∧ vh.ownBlock ≠ some bb ∧ (∀ g, vl.ownBlock = some g → vh.ownBlock ≠ some g)
def Bd (w : World) (B bb : Nat) (st : BS) : Prop := ∃ vl vh, BdP w B bb vl vh st
theorem OwnX.kptS {α : Type} {sz : Nat} {T : TypeId} {c : α → List Value} {w w' : World} {B : Nat} {v : Value} {xs : List α} {S : List Nat} (h : OwnX sz T (sP c) w B v xs) (hk : Kpt S w w') (hS : ∀ g, v.ownBlock = some g → g ∉ S) : OwnX sz T (sP c) w' B v xs := by
  obtain ⟨cs, h1, h2⟩ := h
  have hlt := World.ownsRow.lt h1
  refine ⟨cs, ⟨h1.1, ?_⟩, h2⟩
  rcases h1.2 with hn | ⟨g, cap, cur, rfl, hb, hg, rest⟩
  · exact .inl hn
  · exact .inr ⟨g, cap, cur, rfl, hb, by rw [hk.2 g (hlt g rfl).2 (hS g rfl)]; exact hg, rest⟩
theorem BdP.lt {w : World} {B bb : Nat} {vl vh : Value} {st : BS} (h : BdP w B bb vl vh st) : bb < w.heap.size := (Array.getElem?_eq_some_iff.1 h.1).1
theorem BdP.cells {w : World} {B bb : Nat} {vl vh : Value} {st : BS} (h : BdP w B bb vl vh st) : bb < w.heap.size ∧ w.cell? ⟨bb, 0, none⟩ = some vl ∧ w.cell? ⟨bb, 1, none⟩ = some vh ∧ w.frozen? ⟨bb, 0, none⟩ = false ∧ w.frozen? ⟨bb, 1, none⟩ = false := by
  refine ⟨h.lt, ?_, ?_, ?_, ?_⟩ <;> simp [World.cell?, World.frozen?, h.1]
theorem BdP.below {w w' : World} {B bb : Nat} {vl vh : Value} {st : BS} (h : BdP w B bb vl vh st) (hb : Below w.heap.size w w') : BdP w' B bb vl vh st := by
  have hlt := h.lt
  obtain ⟨h1, h2, h3, h4, h5, h6, h7⟩ := h
  have hk : Kpt [] w w' := .of_below hb
  exact ⟨(hb.block bb hlt).trans h1, h2, h3.kptS hk (fun _ _ => by simp), h4.kptS hk (fun _ _ => by simp), h5, h6, h7⟩
theorem Bd.below {w w' : World} {B bb : Nat} {st : BS} (h : Bd w B bb st) (hb : Below w.heap.size w w') : Bd w' B bb st := by
  obtain ⟨vl, vh, h⟩ := h
  exact ⟨vl, vh, h.below hb⟩
def Built (B bb : Nat) (st : BS) (w : World) (e : Ending) (w' : World) : Prop := e = .returned (.tuple #[]) ∧ Bd w' B bb st ∧ Below B w w'
theorem rdX_lits {α : Type} {sz : Nat} {c : α → List Value} (hsz : ∀ x, (c x).length = sz) (w : World) (ys : List α) (cs : Array Value) (T : TypeId) (h : cs.toList = ys.flatMap c) :
    RdX sz (sP c) anyB (w.alloc (.cells cs T)) (.slice (some ⟨w.heap.size, 0, none⟩) ys.length ys.length) ys := by
  refine ⟨_, _, rfl, Nat.le_refl _, (fun h => by cases h), .inr ⟨_, _, rfl, trivial, by simp, fun i x hx => ⟨_, rfl, fun j u hu => ?_⟩⟩⟩
  have key : ∀ (l : List α) (i : Nat), l[i]? = some x → (l.flatMap c)[i * sz + j]? = some u := by
    intro l
    induction l with
    | nil => intro i h; simp at h
    | cons a l ih =>
      intro i hi
      rw [List.flatMap_cons]
      cases i with
      | zero =>
        simp only [List.getElem?_cons_zero, Option.some.injEq] at hi
        subst hi
        rw [Nat.zero_mul, Nat.zero_add, List.getElem?_append_left (List.getElem?_eq_some_iff.1 hu).1]
        exact hu
      | succ i =>
        rw [List.getElem?_append_right (by rw [hsz, Nat.succ_mul]; omega), hsz, Nat.succ_mul, show i * sz + sz + j - sz = i * sz + j by omega]
        exact ih i (by simpa using hi)
  have := key ys i hx
  rw [← h] at this
  rw [Array.getElem?_toList] at this
  simp [Nat.zero_add, this]
theorem insC_len (x : Ins) : (insC x).length = 7 := rfl
theorem BdP.setL {w w1 : World} {B bb : Nat} {vl vh v' : Value} {st : BS} {L : List Ins} (h : BdP w B bb vl vh st) (hB : B ≤ w.heap.size) (ho : OwnX 7 76 (sP insC) w1 B v' L) (hg : w.grownBy w1 vl.ownBlock) (hl : v'.ownBlock = vl.ownBlock ∨ v'.ownBlock = some w.heap.size) :
    bb < w1.heap.size ∧ w1.cell? ⟨bb, 0, none⟩ = some vl ∧ w1.frozen? ⟨bb, 0, none⟩ = false ∧ Bd (w1.setCell ⟨bb, 0, none⟩ v') B bb (L, st.2) ∧ Below B w (w1.setCell ⟨bb, 0, none⟩ v') := by
  have hlt := h.lt
  obtain ⟨h1, h2, h3, h4, h5, h6, h7⟩ := h
  have hw1 : w1.heap[bb]? = some (.cells #[vl, vh] 112 (0, 0)) := by rw [hg.block bb hlt (fun e => h5 e.symm)]; exact h1
  have k1 : Kpt vl.ownBlock.toList w w1 := .of_grown hg (fun g e => .inl (by rw [e]; simp))
  have k2 : Kpt [bb] w1 (w1.setCell ⟨bb, 0, none⟩ v') := Kpt.set _ _ _ _ _ (by simp)
  have hne : v'.ownBlock ≠ some bb := by
    rcases hl with e | e
    · rw [e]; exact h5
    · rw [e]; simp only [ne_eq, Option.some.injEq]; omega
  refine ⟨Nat.lt_of_lt_of_le hlt hg.size, by simp [World.cell?, hw1], by simp [World.frozen?, hw1], ⟨v', vh, ?_, h2, ho.kptS k2 (fun g e => by simp; rintro rfl; exact hne e), (h4.kptS k1 (fun g e => by simp; intro e'; exact h7 g e' e)).kptS k2 (fun g e => by simp; rintro rfl; exact h6 e), hne, h6, fun g e => ?_⟩, ?_⟩
  · rw [heap_setCell_same w1 bb 0 _ _ _ hw1]; rfl
  · rcases hl with e' | e'
    · exact h7 g (e' ▸ e)
    · rw [e'] at e
      cases e
      intro e2
      have := (h4.lt _ e2).2
      omega
  · have b1 : Below B w w1 := ⟨hg.os, hg.tape, hg.output, hg.size, fun k hk => hg.block k (by omega) (fun e => by have := (h3.lt k e.symm).1; omega)⟩
    exact b1.trans (k2.below (fun x hx => by simp at hx; omega) (Nat.le_trans hB hg.size))
theorem wp_appM {α : Type} {sz bytes : Nat} {T TS : TypeId} {z : Value} (hI : Inf T TS sz bytes z) {c : α → List Value} (hS : Shape (sP c) sz) {w : World} {ops : Array Oper} {rest : List Oper} {o : Oper} {a : Act} {Q : Exit → Act → World → Prop} (hgd : o.guard = none) (s x : Operand)
    (ho : o.op = .call { callee := .builtin .append, args := #[s, x], argTypes := #[TS, TS] })
    (B : Nat) (v : Value) (xs : List α) (hs : a.eval s = v) (hown : OwnX sz T (sP c) w B v xs) (g off n cap : Nat) (ys : List α) (hx : a.eval x = .slice (some ⟨g, off, none⟩) n cap) (hr : RdX sz (sP c) anyB w (.slice (some ⟨g, off, none⟩) n cap) ys)
    (hb : xs.length + ys.length ≤ 1000000) (hbase : B ≤ w.heap.size)
    (h : ∀ v' w', OwnX sz T (sP c) w' B v' (xs ++ ys) → w.grownBy w' v.ownBlock → (v'.ownBlock = v.ownBlock ∨ v'.ownBlock = some w.heap.size) → wpList Tryz.prog ops Q rest (a.put o.dst v') w') :
    wpList Tryz.prog ops Q (o :: rest) a w := by
  refine wpList_plain hgd fun K hK => ?_
  obtain ⟨p', cap', e, h1, h2, h3⟩ := hr
  simp only [Value.slice.injEq] at e
  obtain ⟨rfl, rfl, rfl⟩ := e
  obtain ⟨v', w', hrun, g1, g2, g4⟩ := run_appX hI (sP.grow c) hS w B v xs ys hown ⟨g, off, none⟩ cap (fun i u hu => by
    rcases h3 with rfl | ⟨b, off', e, _, _, hc⟩
    · simp at hu
    · simp only [Option.some.injEq, Addr.mk.injEq, and_true] at e
      obtain ⟨rfl, rfl⟩ := e
      obtain ⟨vs, hv, hcell⟩ := hc i u hu
      refine ⟨vs, hv, fun j u hu => ?_⟩
      have := hcell j u hu
      unfold Addr.add
      split
      · rename_i h0
        rw [show g = g from rfl] at this
        have e0 : off + i * sz + j = off := by omega
        rw [e0] at this
        exact this
      · rw [Nat.add_assoc] at this
        exact this) hb hbase o.type
  unfold Oper.wp execOp
  simp only [ho, resolve, invoke, builtin, Sem.run_bind, Sem.run_pure, Result.andThen_ok, List.map_toArray, List.map_cons, List.map_nil, hs, hx]
  simp only [hrun]
  exact hK _ _ (h v' w' g1 g2 g4)
set_option maxHeartbeats 1000000 in
set_option maxRecDepth 100000 in
theorem add_b (B bb : Nat) (st : BS) (g n cap : Nat) (ys : List Ins) (w : World) (h : Bd w B bb st) (hB : B ≤ w.heap.size) (hr : RdX 7 (sP insC) anyB w (.slice (some ⟨g, 0, none⟩) n cap) ys) (hl : st.1.length + ys.length ≤ 1000000) :
    Calls Tryz.prog 51 #[.pointer (some ⟨bb, 0, none⟩), .slice (some ⟨g, 0, none⟩) n cap] w (Built B bb (bAdd ys st) w) := by
  obtain ⟨vl, vh, h⟩ := h
  obtain ⟨q1, c0, c1, f0, f1⟩ := h.cells
  have HO := Lib.hid h.2.2.1
  have HR := Lib.hid hr
  have HH := Lib.hid h
  clear h hr
  go_enter Tryz.func51, Tryz.ntmps51
  go_wp2_with (at_builtin; refine wp_appM inf_ins shape_ins rfl _ _ rfl B vl st.1 rfl HO.out g 0 n cap ys rfl HR.out hl hB ?_)
  intro v2 w2 ho2 hg2 hl2
  obtain ⟨d0, d1, d2, d3, d4⟩ := HH.out.setL hB ho2 hg2 hl2
  obtain ⟨p2, n2, cc2, hv2⟩ := ho2.slice
  subst hv2
  clear ho2 hg2 hl2
  go_wp2_with fail
  exact bodyPost_end (results_none rfl _ _ _) rfl ⟨rfl, d3, d4⟩
end Go.Proofs.YtlmpnmnfloeoiaaGreat.A
namespace Go.Proofs.YtlmpnmnfloeoiaaGreat.A
open Go.RowKit Go.Proofs.YtlmpnmnfloeoiaaGreat.D Go.Proofs.YtlmpnmnfloeoiaaGreat.O
theorem one_x (o : Int) (w : World) : Calls Tryz.prog 27 #[.int .i64 o] w fun e w' => e = .returned (.agg #[.int .i64 o, .int .i32 0, .int .i64 0, .string ⟨#[]⟩, .string ⟨#[]⟩, .string ⟨#[]⟩, .string ⟨#[]⟩]) ∧ Below w.heap.size w w' := one_v o w
theorem at_x (o k : Int) (w : World) : Calls Tryz.prog 28 #[.int .i64 o, .int .i64 k] w fun e w' => e = .returned (.agg #[.int .i64 o, .int .i32 0, .int .i64 k, .string ⟨#[]⟩, .string ⟨#[]⟩, .string ⟨#[]⟩, .string ⟨#[]⟩]) ∧ Below w.heap.size w w' := at_v o k w
theorem num_x (n : Int) (w : World) (hn : -2147483648 ≤ n ∧ n ≤ 2147483647) : Calls Tryz.prog 52 #[.int .i64 n] w fun e w' => e = .returned (.agg #[.int .i64 1, .int .i32 n, .int .i64 0, .string ⟨#[]⟩, .string ⟨#[]⟩, .string ⟨#[]⟩, .string ⟨#[]⟩]) ∧ Below w.heap.size w w' := num_v n w hn
theorem str_x (s : ByteArray) (w : World) : Calls Tryz.prog 53 #[.string s] w fun e w' => e = .returned (.agg #[.int .i64 2, .int .i32 0, .int .i64 0, .string s, .string ⟨#[]⟩, .string ⟨#[]⟩, .string ⟨#[]⟩]) ∧ Below w.heap.size w w' := str_v s w
theorem of_x (o : Int) (c : ByteArray) (w : World) : Calls Tryz.prog 26 #[.int .i64 o, .string c] w fun e w' => e = .returned (.agg #[.int .i64 o, .int .i32 0, .int .i64 0, .string ⟨#[]⟩, .string c, .string ⟨#[]⟩, .string ⟨#[]⟩]) ∧ Below w.heap.size w w' := of_v o c w
theorem part_x (o : Int) (c m : ByteArray) (w : World) : Calls Tryz.prog 58 #[.int .i64 o, .string c, .string m] w fun e w' => e = .returned (.agg #[.int .i64 o, .int .i32 0, .int .i64 0, .string ⟨#[]⟩, .string c, .string m, .string ⟨#[]⟩]) ∧ Below w.heap.size w w' := part_v o c m w
theorem call_x (o : Int) (c m d : ByteArray) (w : World) : Calls Tryz.prog 57 #[.int .i64 o, .string c, .string m, .string d] w fun e w' => e = .returned (.agg #[.int .i64 o, .int .i32 0, .int .i64 0, .string ⟨#[]⟩, .string c, .string m, .string d]) ∧ Below w.heap.size w w' := call_v o c m d w
theorem rdX_lit1 {α : Type} {sz : Nat} {c : α → List Value} (hsz : ∀ x, (c x).length = sz) (w : World) (y : α) (cs : Array Value) (T : TypeId) (h : cs.toList = c y) :
    RdX sz (sP c) anyB (w.alloc (.cells cs T)) (.slice (some ⟨w.heap.size, 0, none⟩) 1 1) [y] := rdX_lits hsz w [y] cs T (by rw [h]; simp)
def Bs (B bb : Nat) (st : BS) (w0 w : World) : Prop := Bd w B bb st ∧ Below B w0 w ∧ B ≤ w.heap.size
theorem Bs.next {B bb : Nat} {st : BS} {w0 w w' : World} (h : Bs B bb st w0 w) (hb : Below w.heap.size w w') : Bs B bb st w0 w' := ⟨h.1.below hb, h.2.1.trans (hb.mono h.2.2), Nat.le_trans h.2.2 hb.size⟩
theorem Bs.lit {B bb : Nat} {st : BS} {w0 w : World} (h : Bs B bb st w0 w) (o : Obj) : Bs B bb st w0 (w.alloc o) := h.next ((Below.refl _ _).alloc (Nat.le_refl _) _)
theorem add_s {B bb : Nat} {st : BS} {w0 w : World} (H : Bs B bb st w0 w) (ys : List Ins) (cs : Array Value) (hcs : cs.toList = ys.flatMap insC) (n : Nat) (hn : n = ys.length) (hl : st.1.length + ys.length ≤ 1000000) :
    Calls Tryz.prog 51 #[.pointer (some ⟨bb, 0, none⟩), .slice (some ⟨w.heap.size, 0, none⟩) n n] (w.alloc (.cells cs 76)) fun e w' => e = .returned (.tuple #[]) ∧ Bs B bb (bAdd ys st) w0 w' := by
  subst hn
  have hL := H.lit (.cells cs 76)
  refine (add_b B bb st _ _ _ ys _ hL.1 hL.2.2 (rdX_lits insC_len w ys cs 76 hcs) hl).mono ?_
  rintro e w' ⟨rfl, h1, h2⟩
  exact ⟨rfl, h1, hL.2.1.trans h2, Nat.le_trans hL.2.2 h2.size⟩
theorem part_set {cs : List Value} {sz k : Nat} {u : Value} (i : Nat) (j : Nat) (hk : k = i * sz + j) (hj : j < sz) (i' : Nat) :
    ((cs.set k u).drop (i' * sz)).take sz = if i' = i then ((cs.drop (i * sz)).take sz).set j u else (cs.drop (i' * sz)).take sz := by
  subst hk
  rw [List.drop_set]
  by_cases h : i' = i
  · subst h
    rw [if_neg (by omega), if_pos rfl, List.take_set, show i' * sz + j - i' * sz = j by omega]
  · rw [if_neg h]
    by_cases h2 : i * sz + j < i' * sz
    · rw [if_pos h2]
    · rw [if_neg h2, List.take_set]
      have h3 : i' < i := by
        apply Nat.lt_of_not_le
        intro h4
        have : (i + 1) * sz ≤ i' * sz := Nat.mul_le_mul_right _ (by omega)
        rw [Nat.succ_mul] at this
        omega
      have h5 : (i' + 1) * sz ≤ i * sz := Nat.mul_le_mul_right _ (by omega)
      rw [Nat.succ_mul] at h5
      rw [List.set_eq_of_length_le]
      rw [List.length_take]
      omega
theorem OwnX.put1 {α : Type} {sz : Nat} {T : TypeId} {c : α → List Value} {w : World} {B : Nat} {v : Value} {xs : List α} (h : OwnX sz T (sP c) w B v xs) {i j : Nat} {x y : α} {u : Value} (hi : xs[i]? = some x) (hj : j < sz) (hc : c y = (c x).set j u) :
    ∃ g cap, v = .slice (some ⟨g, 0, none⟩) xs.length cap ∧ xs.length ≤ cap ∧ B ≤ g ∧ g < w.heap.size ∧ (∀ k, w.frozen? ⟨g, k, none⟩ = false) ∧ (∀ k u', (c x)[k]? = some u' → w.cell? ⟨g, i * sz + k, none⟩ = some u') ∧ OwnX sz T (sP c) (w.setCell ⟨g, i * sz + j, none⟩ u) B v (xs.set i y) := by
  have hrd := h.rd (sP.grow c)
  obtain ⟨cs, h1, h2⟩ := h
  have hil : i < xs.length := (List.getElem?_eq_some_iff.1 hi).1
  rcases h1.2 with ⟨rfl, hn⟩ | ⟨g, cap, cur, rfl, hb, hg, hle, hm, hs, ht⟩
  · omega
  · refine ⟨g, cap, rfl, hle, hb, (Array.getElem?_eq_some_iff.1 hg).1, fun k => by simp [World.frozen?, hg], fun k u' hu => ?_, cs.set (i * sz + j) u, ⟨by rw [List.length_set, List.length_set]; exact h1.1, .inr ⟨g, cap, cur.setIfInBounds (i * sz + j) u, by rw [List.length_set], hb, ?_, by rw [List.length_set]; exact hle, hm, by simp [hs], ?_⟩⟩, fun i' x' hx' => ?_⟩
    · obtain ⟨b', off', e', -, -, -, -, hcc⟩ := hrd.place (fun e => by rw [e] at hil; simp at hil)
      simp only [Option.some.injEq, Addr.mk.injEq, and_true] at e'
      obtain ⟨rfl, rfl⟩ := e'
      have := sP_at (hcc i x hi) k u' hu
      rw [Nat.zero_add] at this
      exact this
    · exact heap_setCell_same w g (i * sz + j) cur T u hg
    · rw [Array.toList_setIfInBounds, List.take_set, List.length_set, ht]
    · rw [part_set i j rfl hj i']
      rw [List.getElem?_set] at hx'
      by_cases e : i = i'
      · subst e
        rw [if_pos rfl, if_pos hil] at hx'
        cases hx'
        rw [if_pos rfl, h2 i x hi]
        exact hc.symm
      · rw [if_neg e] at hx'
        rw [if_neg (fun h => e h.symm)]
        exact h2 i' x' hx'
end Go.Proofs.YtlmpnmnfloeoiaaGreat.A
