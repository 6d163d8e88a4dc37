/- Texts that the proof is made of, joined. No condition. -/
import Derived.Test.YtjegocecgncpkaaC911
import Derived.Test.YtjegocecgncpkaaC9H
set_option linter.unusedVariables false
set_option linter.unusedSimpArgs false
set_option maxRecDepth 100000
set_option maxHeartbeats 16000000
namespace Go.Proofs.Ytjegocecgncpkaa.R
open Go.RowKit Go.Proofs.Ytjegocecgncpkaa.D Go.Proofs.Ytjegocecgncpkaa.O Go.Proofs.Ytjegocecgncpkaa.A
theorem ownX_of {α : Type} {sz : Nat} {T : TypeId} {c : α → List Value} {B : Nat} {w : World} {v : Value} {xs : List α} (h : OwnR sz T c (fun b => B ≤ b) w v xs) : OwnX sz T (sP c) w B v xs := by
  obtain ⟨⟨cs, h1, h2⟩, h3⟩ := h
  refine ⟨cs, ⟨h1.1, ?_⟩, fun i x hx => h2 i x hx⟩
  rcases h1.2 with hn | ⟨g, cap, cur, rfl, hb, r⟩
  · exact .inl hn
  · exact .inr ⟨g, cap, cur, rfl, h3 g rfl, r⟩
theorem wp_appA {α : Type} {sz bytes : Nat} {T TS : TypeId} {z : Value} (hI : Inf T TS sz bytes z) {c : α → List Value} (hS : Shape (sP c) sz) {w : World} {ops : Array Oper} {rest : List Oper} {o : Oper} {a : Act} {Q : Exit → Act → World → Prop} (hgd : o.guard = none) (s x : Operand)
    (ho : o.op = .call { callee := .builtin .append, args := #[s, x], argTypes := #[TS, TS] })
    (B : Nat) (v : Value) (xs : List α) (hs : a.eval s = v) (hown : OwnX sz T (sP c) w B v xs) (p : Option Addr) (n cap : Nat) (ok : Nat → Prop) (ys : List α) (hx : a.eval x = .slice p n cap) (hr : RdX sz (sP c) ok w (.slice p n cap) ys)
    (hb : xs.length + ys.length ≤ 1000000) (hbase : B ≤ w.heap.size)
    (h : ∀ v' w', OwnX sz T (sP c) w' B v' (xs ++ ys) → w.grownBy w' v.ownBlock → (v'.ownBlock = v.ownBlock ∨ v'.ownBlock = some w.heap.size) → wpList Try.prog ops Q rest (a.put o.dst v') w') :
    wpList Try.prog ops Q (o :: rest) a w := by
  have hr' := hr.step (sP.grow c) (ok' := anyB) (fun _ _ _ => trivial) (fun _ _ _ => rfl) (Nat.le_refl _)
  obtain ⟨p', cap', e, hle, hnone, hcs⟩ := hr
  simp only [Value.slice.injEq] at e
  obtain ⟨rfl, rfl, rfl⟩ := e
  by_cases hys : ys = []
  · subst hys
    have hk := h v w (by rw [List.append_nil]; exact hown) ⟨rfl, rfl, rfl, Nat.le_refl _, fun _ _ _ => rfl⟩ (.inl rfl)
    cases p with
    | none =>
      obtain rfl := hnone rfl
      obtain ⟨cs, h1, -⟩ := hown
      obtain ⟨hi1, hu, hz, hbb⟩ := hI
      obtain ⟨i0, hi, hz0, hz1, hz2⟩ := info_parts hi1
      exact wpList_append_own_none hgd s x TS ho B T i0 sz hu hi v xs.length cs hs h1 hx hk
    | some ad =>
      obtain ⟨g, off, spot⟩ := ad
      refine wpList_plain hgd fun K hK => ?_
      obtain ⟨v', w', hrun, g1, g2, g4⟩ := run_appX hI (sP.grow c) hS w B v xs [] hown ⟨g, off, spot⟩ cap (fun i u hu => by simp at hu) hb hbase o.type
      unfold Oper.wp execOp
      simp only [ho, resolve, invoke, builtin, Sem.run_bind, Sem.run_pure, Result.andThen_ok, List.map_toArray, List.map_cons, List.map_nil, hs, hx]
      simp only [hrun]
      exact hK _ _ (h v' w' g1 g2 g4)
  · obtain ⟨b, off, rfl, -, -, -⟩ : ∃ b off, p = some ⟨b, off, none⟩ ∧ ok b ∧ b < w.heap.size ∧ True := by
      rcases hcs with e | ⟨b, off, e, h1, h2, -⟩
      · exact absurd e hys
      · exact ⟨b, off, e, h1, h2, trivial⟩
    exact wp_appM hI hS hgd s x ho B v xs hs hown b off _ cap ys hx hr' hb hbase h
theorem slots_few {K : List Cls} (h : ∀ n, (clsK K n).fields.length ≤ 900) : ∀ l : List ByteArray, (l.flatMap fun c => (clsK K c).fields.filter instF).length ≤ l.length * 900
  | [] => Nat.zero_le _
  | x :: l => by
    have h1 := slots_few h l
    have h2 := h x
    have h3 := List.length_filter_le instF (clsK K x).fields
    rw [List.flatMap_cons, List.length_append, List.length_cons, Nat.succ_mul]
    omega
theorem down_few {K : List Cls} (h : SzT (K.map skOf)) (n : ByteArray) : (downK K n).length ≤ 1007 ∧ ∀ x ∈ downK K n, x.size ≤ maxLen := by
  have h1 := (chain_kn (K.map skOf) n).len
  have h2 := h.1
  unfold downK
  exact ⟨by rw [List.length_reverse]; omega, fun x hx => h.kn (chain_kn _ n) x (List.mem_reverse.1 hx)⟩
set_option maxHeartbeats 4000000 in
set_option maxRecDepth 100000 in
theorem Slots_m (ok : Nat → Prop) (tb mt : Nat) (vs : Value) (K : List Cls) (n : ByteArray) (w : World) (h : TrW w ok tb mt vs K) (hn : n.size ≤ maxLen) (ha : AskK K) :
    Calls Try.prog 11 #[.pointer (some ⟨tb, 0, none⟩), .string n] w fun e w' => ∃ p c, e = .returned (.slice p (slotsK K n).length c) ∧ OwnX 4 37 (sP fldC) w' w.heap.size (.slice p (slotsK K n).length c) (slotsK K n) ∧ Below w.heap.size w w' := by
  have HT := Lib.hid h
  have HA := Lib.hid ha
  have HL := Lib.hid (down_few h.2.2.2.2.2 n)
  clear h ha
  have HE : Hid (slotsK K n = (downK K n).flatMap fun c => (clsK K c).fields.filter instF) := Lib.hid rfl
  obtain ⟨R, hR⟩ : ∃ x, slotsK K n = x := ⟨_, rfl⟩
  rw [hR] at HE ⊢
  clear hR
  go_enter Try.func11, Try.ntmps11
  go_wp2_with fail
  refine (down_m ok tb mt vs K n w HT.out hn).mono ?_
  rintro e w1 ⟨p1, c1, rfl, ho1, hb1⟩
  have HB1 := Lib.hid hb1
  have HR1 := Lib.hid (own_str ho1)
  obtain ⟨L, hL⟩ : ∃ l, downK K n = l := ⟨_, rfl⟩
  rw [hL] at HR1 HL HE ⊢
  clear hL ho1 hb1
  have hll := HL.out.1
  go_wp2_with fail
  go_loopw [5, 14] (fun v x wr => ∃ i : Nat, x = .int .i64 (i : Int) ∧ i ≤ L.length ∧ Hid (OwnX 4 37 (sP fldC) wr w1.heap.size v ((L.take i).flatMap fun c => (clsK K c).fields.filter instF)) ∧ Hid (Below w1.heap.size w1 wr)) (fun _ x _ => L.length - (intOf x).toNat)
  case atStart => exact ⟨0, rfl, by omega, Lib.hid (OwnX.nil _ _ _ _ _), Lib.hid (Below.refl _ _)⟩
  case round =>
    obtain ⟨i, rfl, hi, HO, HB⟩ := hrel
    have hzr := HB.out.size
    by_cases hlt : i < L.length
    · obtain ⟨y, hy⟩ : ∃ y, L[i]? = some y := ⟨_, List.getElem?_eq_getElem hlt⟩
      obtain ⟨bb, off, rfl, -, -, hbk, hbl, hc⟩ := rdX_at HR1.out hy
      have hlt' : (i : Int) < (L.length : Int) := by omega
      have i0 : (0 : Int) ≤ (i : Int) := by omega
      have hc2 : wr.cell? ⟨bb, off + i, none⟩ = some (.string y) := (HB.out.cell (p := ⟨bb, off + i, none⟩) hbl).trans hc
      have hym := HL.out.2 y (List.mem_of_getElem? hy)
      have HN := Lib.hid (slots_next (K := K) hy)
      have HTr : Hid (TrW wr ok tb mt vs K) := Lib.hid (HT.out.below (HB1.out.trans (HB.out.mono HB1.out.size)))
      have hfl := slots_few HA.out.2.2 (L.take i)
      have hlt2 : (L.take i).length ≤ 1006 := by rw [List.length_take]; omega
      obtain ⟨va, vn, vk, hv⟩ := HO.out.slice
      subst hv
      clear hy hc hbl
      go_upto_region 5 with fail
      clear hc2
      go_wp2_with fail
      refine (Class_t ok tb mt vs K y wr HTr.out hym HA.out.1).mono ?_
      rintro e w2 ⟨pi, ni, ci, pf, nf, cf, pm, nm, cm, rfl, hco, hb2⟩
      have hfw := HA.out.2.2 y
      obtain ⟨c, hc⟩ : ∃ c, clsK K y = c := ⟨_, rfl⟩
      have hc' : (findC K y).getD noC = c := hc
      rw [hc] at hfw HN
      rw [hc'] at hco ⊢
      clear hc hc'
      obtain ⟨kk, hkk⟩ : ∃ x, (findC K y).isSome = x := ⟨_, rfl⟩
      rw [hkk]
      clear hkk
      obtain ⟨vi, vf, vm, hv, q1, q2, q3⟩ := hco
      simp only [List.cons.injEq, and_true, true_and] at hv
      obtain ⟨rfl, rfl, rfl⟩ := hv
      obtain rfl := len_rd q2.rd
      have q4 := ownX_of q2
      clear q1 q2 q3
      obtain ⟨w3, hw3⟩ : ∃ x, x = w2.alloc (.cells #[.string c.name, .string c.super, .slice pi ni ci, .int .i64 c.kind, .slice pf c.fields.length cf, .slice pm nm cm] 50) := ⟨_, rfl⟩
      have hb3 : Below w2.heap.size w2 w3 := by rw [hw3]; exact below_alR _ _
      have hX3 : w3.heap[w2.heap.size]? = some (.cells #[.string c.name, .string c.super, .slice pi ni ci, .int .i64 c.kind, .slice pf c.fields.length cf, .slice pm nm cm] 50 (0, 0)) := by rw [hw3]; exact heap_alloc_new _ _
      have hz2 := hb2.size
      have hz3 := hb3.size
      have HB23 := Lib.hid (hb2.trans (hb3.mono hz2))
      have HQ3 := Lib.hid (q4.kptS (.of_below hb3 : Kpt [] w2 w3) (fun _ _ => by simp))
      clear hb2 hb3 q4
      go_upto_region 6 with fail
      rw [← hw3]
      clear hw3
      obtain ⟨cb, hcb⟩ : ∃ x, w2.heap.size = x := ⟨_, rfl⟩
      rw [hcb] at hX3 hz2 hz3 ⊢
      clear hcb
      obtain ⟨xl, xc, -⟩ := boxN hX3
      have x4 := xc 4 _ rfl
      simp only [Nat.zero_add] at x4
      clear xc hX3
      have HO3 := Lib.hid (HO.out.kptS (.of_below HB23.out : Kpt [] wr w3) (fun _ _ => by simp))
      have HB3 := Lib.hid (HB.out.trans (HB23.out.mono hzr))
      have hfl2 := List.length_filter_le instF c.fields
      go_wp2_with first
        | (go_at_call 31; refine (del_m wr.heap.size pf cf c.fields w3 HQ3.out (by omega) (by omega)).mono ?_; rintro e w4 ⟨p4, rfl, hr4, hb4⟩; have HO4 := Lib.hid (HO.out.kptS (.of_below (HB23.out.trans hb4) : Kpt [] wr w4) (fun _ _ => by simp)); have HB4 := Lib.hid (HB3.out.trans (hb4.mono hzr)))
        | (at_builtin; refine wp_appA inf_fld shape_fld rfl _ _ rfl w1.heap.size _ _ rfl HO4.out _ _ _ _ _ rfl hr4 (by omega) HB4.out.size ?_; intro v6 w6 ho6 hg6 hl6)
      have HO6 : Hid (OwnX 4 37 (sP fldC) w6 w1.heap.size v6 ((L.take (i + 1)).flatMap fun c => (clsK K c).fields.filter instF)) := Lib.hid (by rw [HN.out]; exact ho6)
      have hlo := HO4.out.lt
      have hz4 := HB4.out.size
      have HB6 : Hid (Below w1.heap.size w1 w6) := Lib.hid (HB4.out.trans ⟨hg6.os, hg6.tape, hg6.output, hg6.size, fun k hk => hg6.block k (by omega) (fun e => by have := (hlo k e.symm).1; omega)⟩)
      go_roundw
      case rel => exact ⟨i + 1, by go_num, by omega, HO6, HB6⟩
      case measure => simp [intOf]; omega
    · have hlt' : ¬ (i : Int) < (L.length : Int) := by omega
      obtain rfl : i = L.length := by omega
      rw [List.take_length] at HO
      obtain ⟨va, vn, vk, hv⟩ := HO.out.slice
      subst hv
      go_wp2_with fail
      go_ret
      obtain rfl := len_rd (HO.out.rd (sP.grow _))
      rw [← HE.out] at HO ⊢
      exact ⟨_, _, rfl, HO.out.mono (sP.grow _) HB1.out.size, HB1.out.trans (HB.out.mono HB1.out.size)⟩
set_option maxHeartbeats 4000000 in
set_option maxRecDepth 100000 in
theorem Inits_m (ok : Nat → Prop) (tb mt : Nat) (vs : Value) (K : List Cls) (n : ByteArray) (w : World) (h : TrW w ok tb mt vs K) (hn : n.size ≤ maxLen) (ha : AskK K) :
    Calls Try.prog 17 #[.pointer (some ⟨tb, 0, none⟩), .string n] w fun e w' => ∃ p c, e = .returned (.slice p (initsK K n).length c) ∧ S.OwnC S.cS 9 w' w.heap.size (.slice p (initsK K n).length c) (initsK K n) ∧ Below w.heap.size w w' := by
  have eg : ∀ args w, (callFunc 46 args).run Try.prog w = .ok (.enter 46 args) w := enters_of Try.func46 (by kernel_rfl) rfl
  have HT := Lib.hid h
  have HA := Lib.hid ha
  have HL := Lib.hid (down_few h.2.2.2.2.2 n)
  clear h ha
  have HE : Hid (initsK K n = (downK K n).filter (hasI K)) := Lib.hid rfl
  obtain ⟨R, hR⟩ : ∃ x, initsK K n = x := ⟨_, rfl⟩
  rw [hR] at HE ⊢
  clear hR
  go_enter Try.func17, Try.ntmps17
  go_wp2_with fail
  refine (down_m ok tb mt vs K n w HT.out hn).mono ?_
  rintro e w1 ⟨p1, c1, rfl, ho1, hb1⟩
  have HB1 := Lib.hid hb1
  have HR1 := Lib.hid (own_str ho1)
  obtain ⟨L, hL⟩ : ∃ l, downK K n = l := ⟨_, rfl⟩
  rw [hL] at HR1 HL HE ⊢
  clear hL ho1 hb1
  have hll := HL.out.1
  go_wp2_with fail
  go_loopw [5, 14] (fun v x wr => ∃ i : Nat, x = .int .i64 (i : Int) ∧ i ≤ L.length ∧ Hid (S.OwnC S.cS 9 wr w1.heap.size v ((L.take i).filter (hasI K))) ∧ Hid (Below w1.heap.size w1 wr)) (fun _ x _ => L.length - (intOf x).toNat)
  case atStart => exact ⟨0, rfl, by omega, Lib.hid (S.OwnC.nil _ _), Lib.hid (Below.refl _ _)⟩
  case round =>
    obtain ⟨i, rfl, hi, HO, HB⟩ := hrel
    have hzr := HB.out.size
    by_cases hlt : i < L.length
    · obtain ⟨y, hy⟩ : ∃ y, L[i]? = some y := ⟨_, List.getElem?_eq_getElem hlt⟩
      obtain ⟨bb, off, rfl, -, -, hbk, hbl, hc⟩ := rdX_at HR1.out hy
      have hlt' : (i : Int) < (L.length : Int) := by omega
      have i0 : (0 : Int) ≤ (i : Int) := by omega
      have hc2 : wr.cell? ⟨bb, off + i, none⟩ = some (.string y) := (HB.out.cell (p := ⟨bb, off + i, none⟩) hbl).trans hc
      have hym := HL.out.2 y (List.mem_of_getElem? hy)
      have HN := Lib.hid (inits_next (K := K) hy)
      have HTr : Hid (TrW wr ok tb mt vs K) := Lib.hid (HT.out.below (HB1.out.trans (HB.out.mono HB1.out.size)))
      have hfl : ((L.take i).filter (hasI K)).length + 1 ≤ 1000000 := by
        have := List.length_filter_le (hasI K) (L.take i)
        rw [List.length_take] at this
        omega
      have HFL := Lib.hid hfl
      have hhi : hasI K y = (clsK K y).methods.any (mthQ clinT voidT) := rfl
      obtain ⟨va, vn, vk, hv⟩ := HO.out.slice
      subst hv
      clear hy hc hbl hfl
      go_upto_region 5 with fail
      clear hc2
      go_wp2_with fail
      refine (Class_t ok tb mt vs K y wr HTr.out hym HA.out.1).mono ?_
      rintro e w2 ⟨pi, ni, ci, pf, nf, cf, pm, nm, cm, rfl, hco, hb2⟩
      have hfw := (cls_few HA.out.1 y).2
      have hzm := HA.out.2.1 y
      obtain ⟨c, hc⟩ : ∃ c, clsK K y = c := ⟨_, rfl⟩
      have hc' : (findC K y).getD noC = c := hc
      rw [hc] at hfw hhi hzm
      rw [hc'] at hco ⊢
      clear hc hc'
      obtain ⟨kk, hkk⟩ : ∃ x, (findC K y).isSome = x := ⟨_, rfl⟩
      rw [hkk]
      clear hkk
      obtain ⟨vi, vf, vm, hv, q1, q2, q3⟩ := hco.rd
      simp only [List.cons.injEq, and_true, true_and] at hv
      obtain ⟨rfl, rfl, rfl⟩ := hv
      obtain rfl := len_rd q3
      clear hco q1 q2
      obtain ⟨w3, hw3⟩ : ∃ x, x = w2.alloc (.cells #[.string c.name, .string c.super, .slice pi ni ci, .int .i64 c.kind, .slice pf nf cf, .slice pm c.methods.length cm] 50) := ⟨_, rfl⟩
      have hb3 : Below w2.heap.size w2 w3 := by rw [hw3]; exact below_alR _ _
      have hX3 : w3.heap[w2.heap.size]? = some (.cells #[.string c.name, .string c.super, .slice pi ni ci, .int .i64 c.kind, .slice pf nf cf, .slice pm c.methods.length cm] 50 (0, 0)) := by rw [hw3]; exact heap_alloc_new _ _
      have hz2 := hb2.size
      have hz3 := hb3.size
      have HB23 := Lib.hid (hb2.trans (hb3.mono hz2))
      have HQ3 := Lib.hid (q3.any mP.grow hb3)
      clear hb2 hb3 q3
      go_upto_region 6 with fail
      rw [← hw3]
      clear hw3
      obtain ⟨cb, hcb⟩ : ∃ x, w2.heap.size = x := ⟨_, rfl⟩
      rw [hcb] at hX3 hz2 hz3 ⊢
      clear hcb
      obtain ⟨xl, xc, -⟩ := boxN hX3
      have x5 := xc 5 _ rfl
      simp only [Nat.zero_add] at x5
      clear xc hX3
      have hhm := has_mth _ _ _ c.methods 46 #[] (mthQ clinT voidT) w3 HQ3.out hfw eg (fun W x pp pc ph np cp nc cc nh ch hx _ hm => by obtain ⟨_, _, _, hv, q1, -⟩ := hm; simp only [List.cons.injEq, and_true, true_and] at hv; obtain ⟨rfl, -⟩ := hv; exact isi_m x pp pc ph np cp nc cc nh ch _ W q1 (hzm x hx))
      have HO3 := Lib.hid (HO.out.kpt (S.Kpt.of_below (S := []) HB23.out) (by simp))
      have HB3 := Lib.hid (HB.out.trans (HB23.out.mono hzr))
      cases hcase : c.methods.any (mthQ clinT voidT) with
      | true =>
        rw [hcase] at hhm hhi
        have HN2 : Hid ((L.take (i + 1)).filter (hasI K) = (L.take i).filter (hasI K) ++ [y]) := Lib.hid (by rw [HN.out, if_pos hhi])
        clear hcase hhi
        go_upto_region 7 with (go_at_call 45; refine hhm.mono ?_; rintro e w4 ⟨rfl, hb4⟩)
        have HO4 := Lib.hid ((HO3.out.kpt (S.Kpt.of_below (S := []) hb4) (by simp)).alloc (.cells #[.string y] 9))
        have HB4 := Lib.hid (HB3.out.trans (hb4.mono HB3.out.size))
        have HX := Lib.hid (S.rd_one (c := S.cS) (x := y) (heap_alloc_new w4 (.cells #[.string y] 9)) rfl)
        have hz4 := HB4.out.size
        clear hb4 x5 xl
        try dsimp only [S.cS] at *
        go_wp2_with (at_builtin; refine S.wp_appC S.infS (fun _ => rfl) rfl _ _ rfl w1.heap.size _ _ rfl HO4.out (fun _ => True) _ [y] rfl HX.out HFL.out (by simp; omega) ?_)
        intro v6 w6 ho6 hg6 hl6
        have HO6 : Hid (S.OwnC S.cS 9 w6 w1.heap.size v6 ((L.take (i + 1)).filter (hasI K))) := Lib.hid (by rw [HN2.out]; exact ho6)
        have hlo := HO4.out.lt
        have HB6 : Hid (Below w1.heap.size w1 w6) := Lib.hid ((HB4.out.trans ((below_alR w4 (.cells #[.string y] 9)).mono hz4)).trans ⟨hg6.os, hg6.tape, hg6.output, hg6.size, fun k hk => hg6.block k (by simp; omega) (fun e => by have := (hlo k e.symm).1; omega)⟩)
        clear ho6 hg6 hl6
        go_wp2_with fail
        go_roundw
        case rel => exact ⟨i + 1, by go_num, by omega, HO6, HB6⟩
        case measure => simp [intOf]; omega
      | false =>
        rw [hcase] at hhm hhi
        have HN2 : Hid ((L.take (i + 1)).filter (hasI K) = (L.take i).filter (hasI K)) := Lib.hid (by rw [HN.out, if_neg (by rw [hhi]; simp)])
        clear hcase hhi
        go_wp2_with (go_at_call 45; refine hhm.mono ?_; rintro e w4 ⟨rfl, hb4⟩)
        have HO4 : Hid (S.OwnC S.cS 9 w4 w1.heap.size _ ((L.take (i + 1)).filter (hasI K))) := Lib.hid (by rw [HN2.out]; exact HO3.out.kpt (S.Kpt.of_below (S := []) hb4) (by simp))
        have HB4 := Lib.hid (HB3.out.trans (hb4.mono HB3.out.size))
        go_roundw
        case rel => exact ⟨i + 1, by go_num, by omega, HO4, HB4⟩
        case measure => simp [intOf]; omega
    · have hlt' : ¬ (i : Int) < (L.length : Int) := by omega
      obtain rfl : i = L.length := by omega
      rw [List.take_length] at HO
      obtain ⟨pq, kq, hq, -⟩ := HO.out.rd.form
      subst hq
      go_wp2_with fail
      go_ret
      rw [← HE.out] at HO ⊢
      exact ⟨_, _, rfl, HO.out.mono HB1.out.size, HB1.out.trans (HB.out.mono HB1.out.size)⟩
end Go.Proofs.Ytjegocecgncpkaa.R
