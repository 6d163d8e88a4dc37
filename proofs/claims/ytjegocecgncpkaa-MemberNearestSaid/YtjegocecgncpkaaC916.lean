/- Texts that the proof is made of, joined. No condition. -/
import Derived.Test.YtjegocecgncpkaaC911
import Derived.Test.YtjegocecgncpkaaC912
import Derived.Test.YtjegocecgncpkaaC915
import Derived.Test.YtjegocecgncpkaaC9H
set_option linter.unusedVariables false
set_option linter.unusedSimpArgs false
set_option maxRecDepth 100000
set_option maxHeartbeats 16000000
namespace Go.Proofs.Ytjegocecgncpkaa.R
open Go.RowKit Go.Proofs.Ytjegocecgncpkaa.D Go.Proofs.Ytjegocecgncpkaa.O Go.Proofs.Ytjegocecgncpkaa.A
set_option maxHeartbeats 8000000 in
set_option maxRecDepth 100000 in
theorem known_9 (w : World) : Calls Try.prog 8 #[] w fun e w' => e = .returned (.bool true) ∧ Below w.heap.size w w' := by
  go_enter Try.func8, Try.ntmps8
  try simp only [List.append_eq, List.cons_append, List.nil_append]
  go_wp2_with fail
  refine (archive_0 2 0 0 0 w (by decide) (by decide) (by decide) (by decide)).mono ?_
  rintro e w1 ⟨p1, n1, c1, rfl, hr1, hb1⟩
  obtain ⟨_, _, e1, -⟩ := hr1.len
  simp only [Value.slice.injEq] at e1
  obtain ⟨rfl, rfl, rfl⟩ := e1
  have HR1 := Lib.hid hr1
  have HB1 := Lib.hid hb1
  clear hr1 hb1
  go_wp2_with fail
  refine (New_t _ _ _ _ w1 HR1.out (seat_sz8 2 0 0 0) (seat_few 2 0 0 0)).mono ?_
  rintro e w2 ⟨tb, mb, vs, rfl, ht2, hb2⟩
  rw [seat_id] at ht2
  have HT := Lib.hid ht2
  have HB := Lib.hid (HB1.out.trans (hb2.mono HB1.out.size))
  have HA := Lib.hid (seat_ask 2 0 0 0)
  have HF := Lib.hid g_field
  have HM := Lib.hid g_method
  have HV := Lib.hid g_virtual
  have HI := Lib.hid g_inits
  have HS := Lib.hid g_slots
  have HC := Lib.hid g_code
  obtain ⟨K, hK⟩ : ∃ x, archS 2 0 0 0 [] [] = x := ⟨_, rfl⟩
  rw [hK] at HT HA HF HM HV HI HS
  obtain ⟨m, hm⟩ : ∃ x, runS ⟨#[65]⟩ 0 = x := ⟨_, rfl⟩
  rw [hm] at HM HC
  obtain ⟨ok, hok⟩ : ∃ x, (fun b => w1.heap.size ≤ b) = x := ⟨_, rfl⟩
  rw [hok] at HT
  clear hK hok hm ht2 hb2 HR1 HB1
  go_wp2_with fail
  refine (Field_m ok tb mb vs K _ _ _ w2 HT.out (sz_small (by decide)) HA.out).mono ?_
  rw [HF.out]
  rintro e w3 ⟨rfl, hb3⟩
  simp only [nmO, fdO, Option.isSome]
  obtain ⟨w4, hw4⟩ : ∃ z, z = w3.alloc (.cells #[.string ⟨#[120]⟩, .int .i64 1, .string es, .bool false] 37) := ⟨_, rfl⟩
  have HX4 : Hid (w4.heap[w3.heap.size]? = some (.cells #[.string ⟨#[120]⟩, .int .i64 1, .string es, .bool false] 37 (0, 0))) := Lib.hid (by rw [hw4]; exact heap_alloc_new _ _)
  have HB4 : Hid (Below w2.heap.size w2 w4) := Lib.hid (by rw [hw4]; exact hb3.trans ((below_alR _ _).mono hb3.size))
  go_upto_region 3 with fail
  rw [← hw4]
  clear hw4 hb3
  obtain ⟨b4, hb4⟩ : ∃ z, w3.heap.size = z := ⟨_, rfl⟩
  rw [hb4] at HX4 ⊢
  clear hb4
  go_wp2_with fail
  refine (Method_m ok tb mb vs K _ _ _ w4 (HT.out.below HB4.out) (sz_small (by decide)) HA.out).mono ?_
  rw [HM.out]
  rintro e w5 ⟨pp, np, cp, pc, nc, cc, ph, nh, ch, rfl, hmp, hb5⟩
  obtain ⟨_, _, _, hv, q1, q2, q3⟩ := hmp
  simp only [List.cons.injEq, and_true, true_and] at hv
  obtain ⟨rfl, rfl, rfl⟩ := hv
  obtain rfl : nc = 5 := (len_rd q2).trans HC.out
  clear q1 q2 q3
  simp only [nmO, mtO, Option.isSome]
  obtain ⟨w6, hw6⟩ : ∃ z, z = w5.alloc (.cells #[.string m.name, .slice pp np cp, .int .i64 m.ret.1, .string m.ret.2, .bool m.st, .bool m.ab, .int .i64 m.locals, .slice pc 5 cc, .slice ph nh ch] 44) := ⟨_, rfl⟩
  have HX6 : Hid (w6.heap[w5.heap.size]? = some (.cells #[.string m.name, .slice pp np cp, .int .i64 m.ret.1, .string m.ret.2, .bool m.st, .bool m.ab, .int .i64 m.locals, .slice pc 5 cc, .slice ph nh ch] 44 (0, 0))) := Lib.hid (by rw [hw6]; exact heap_alloc_new _ _)
  have hb46 : Below w4.heap.size w4 w6 := by rw [hw6]; exact hb5.trans ((below_alR _ _).mono hb5.size)
  have HB6 := Lib.hid (HB4.out.trans (hb46.mono HB4.out.size))
  have HX46 := Lib.hid ((hb46.block _ (Array.getElem?_eq_some_iff.1 HX4.out).1).trans HX4.out)
  go_upto_region 4 with fail
  rw [← hw6]
  clear hw6 hb5 hb46
  obtain ⟨b6, hb6⟩ : ∃ z, w5.heap.size = z := ⟨_, rfl⟩
  rw [hb6] at HX6 ⊢
  clear hb6
  go_wp2_with fail
  refine (Virtual_m ok tb mb vs K _ _ _ w6 (HT.out.below HB6.out) (sz_small (by decide)) HA.out).mono ?_
  rw [HV.out]
  rintro e w7 ⟨vp, vn, vc, up, un, uc, tp, tn, tc, rfl, -, hb7⟩
  simp only [nmO, mtO, noM, Option.isSome]
  obtain ⟨w8, hw8⟩ : ∃ z, z = w7.alloc (.cells #[.string es, .slice vp vn vc, .int .i64 0, .string es, .bool false, .bool false, .int .i64 0, .slice up un uc, .slice tp tn tc] 44) := ⟨_, rfl⟩
  have hb68 : Below w6.heap.size w6 w8 := by rw [hw8]; exact hb7.trans ((below_alR _ _).mono hb7.size)
  have HB8 := Lib.hid (HB6.out.trans (hb68.mono HB6.out.size))
  have HX48 := Lib.hid ((hb68.block _ (Array.getElem?_eq_some_iff.1 HX46.out).1).trans HX46.out)
  have HX68 := Lib.hid ((hb68.block _ (Array.getElem?_eq_some_iff.1 HX6.out).1).trans HX6.out)
  go_upto_region 5 with fail
  rw [← hw8]
  clear hw8 hb7 hb68
  obtain ⟨b8, hb8⟩ : ∃ z, w7.heap.size = z := ⟨_, rfl⟩
  try rw [hb8]
  clear hb8
  go_wp2_with fail
  refine (Inits_m ok tb mb vs K _ w8 (HT.out.below HB8.out) (sz_small (by decide)) HA.out).mono ?_
  rw [HI.out]
  rintro e w9 ⟨p9, c9, rfl, ho9, hb9⟩
  have HB9 := Lib.hid (HB8.out.trans (hb9.mono HB8.out.size))
  have HX49 := Lib.hid ((hb9.block _ (Array.getElem?_eq_some_iff.1 HX48.out).1).trans HX48.out)
  have HX69 := Lib.hid ((hb9.block _ (Array.getElem?_eq_some_iff.1 HX68.out).1).trans HX68.out)
  have HO9 := Lib.hid ho9
  clear hb9 ho9
  go_upto_region 6 with fail
  obtain ⟨xl, xc, -⟩ := boxN HX49.out
  have x1 := xc 1 _ rfl
  obtain ⟨yl, yc, -⟩ := boxN HX69.out
  have y7 := yc 7 _ rfl
  simp only [Nat.zero_add] at x1 y7
  clear xc yc
  go_wp2_with (go_at_call 11; refine (Slots_m ok tb mb vs K _ w9 (HT.out.below HB9.out) (sz_small (by decide)) HA.out).mono ?_; rw [HS.out]; rintro e w10 ⟨p10, c10, rfl, -, hb10⟩; (obtain ⟨g9, cc9, -, ee, -, gl9, -, -, -, hcc, -, -⟩ | ⟨ee, _⟩ := (Or.symm (HO9.out.kpt (S.Kpt.of_below (S := []) hb10) (by simp)).cells); rotate_left; simp at ee); (simp only [Value.slice.injEq] at ee; obtain ⟨rfl, -, rfl⟩ := ee; have z0 := hcc 0 _ rfl; have HB10 := Lib.hid (HB9.out.trans (hb10.mono HB9.out.size))))
  go_ret
  exact ⟨rfl, HB.out.trans (HB10.out.mono HB.out.size)⟩
end Go.Proofs.Ytjegocecgncpkaa.R
namespace Go.Proofs.Ytjegocecgncpkaa.R
open Go.RowKit Go.Proofs.Ytjegocecgncpkaa.D Go.Proofs.Ytjegocecgncpkaa.O Go.Proofs.Ytjegocecgncpkaa.A
theorem rd_block {α : Type} {sz : Nat} {P : Pv α} {ok : Nat → Prop} {w : World} {b : Nat} {T : TypeId} (ls : List (List Value)) (xs : List α) (cs : Array Value) (h : w.heap[b]? = some (.cells cs T (0, 0))) (hcs : cs.toList = ls.flatten) (hb : ok b)
    (ha : All2 (fun l x => P ok w l x ∧ l.length = sz) ls xs) (n c : Nat) (hn : n = xs.length) (hc : n ≤ c) : RdX sz P ok w (.slice (some ⟨b, 0, none⟩) n c) xs := by
  subst hn
  refine ⟨_, c, rfl, hc, (fun e => by cases e), .inr ⟨b, 0, rfl, hb, (Array.getElem?_eq_some_iff.1 h).1, fun i x hx => ?_⟩⟩
  have key : ∀ (ls : List (List Value)) (xs : List α) (i : Nat), All2 (fun l x => P ok w l x ∧ l.length = sz) ls xs → xs[i]? = some x → ∃ l, P ok w l x ∧ ∀ j u, l[j]? = some u → ls.flatten[i * sz + j]? = some u := by
    intro ls
    induction ls with
    | nil => intro xs i h hi; cases xs with
      | nil => simp at hi
      | cons y ys => cases h
    | cons l ls ih =>
      intro xs i h hi
      cases xs with
      | nil => cases h
      | cons y ys =>
        obtain ⟨⟨h1, h2⟩, h3⟩ := h
        cases i with
        | zero =>
          simp only [List.getElem?_cons_zero, Option.some.injEq] at hi
          subst hi
          refine ⟨l, h1, fun j u hu => ?_⟩
          rw [List.flatten_cons, Nat.zero_mul, Nat.zero_add, List.getElem?_append_left (List.getElem?_eq_some_iff.1 hu).1]
          exact hu
        | succ i =>
          obtain ⟨l', g1, g2⟩ := ih ys i h3 (by simpa using hi)
          refine ⟨l', g1, fun j u hu => ?_⟩
          rw [List.flatten_cons, List.getElem?_append_right (by rw [h2, Nat.succ_mul]; omega), h2, Nat.succ_mul, show i * sz + sz + j - sz = i * sz + j by omega]
          exact g2 j u hu
  obtain ⟨l, g1, g2⟩ := key ls xs i ha hx
  refine ⟨l, g1, fun j u hu => ?_⟩
  have := g2 j u hu
  rw [← hcs, Array.getElem?_toList] at this
  simp only [World.cell?, h, Nat.zero_add]
  exact this
def hidL (t l o : Bool) : List Cls := [⟨⟨#[80]⟩, ⟨#[79, 98, 106, 101, 99, 116]⟩, [], 1, [(⟨#[102]⟩, (1, es), t)], []⟩, ⟨⟨#[81]⟩, ⟨#[80]⟩, [], 1, if o then [(⟨#[102]⟩, (2, es), l)] else [], []⟩]
def hidF (t l s o : Bool) : Option (ByteArray × Fld) := if (o && (l == s)) = true then some (⟨#[81]⟩, (⟨#[102]⟩, (2, es), l)) else if (t == s) = true then some (⟨#[80]⟩, (⟨#[102]⟩, (1, es), t)) else none
def hidN (t l o : Bool) : Nat := (if t = true then 0 else 1) + if (o && !l) = true then 1 else 0
theorem hid_field (t l s o : Bool) : fieldK (keepL (hidL t l o)) ⟨#[81]⟩ ⟨#[102]⟩ s = hidF t l s o := by cases t <;> cases l <;> cases s <;> cases o <;> kernel_rfl
theorem hid_none (t l s o : Bool) : fieldK (keepL (hidL t l o)) ⟨#[81]⟩ ⟨#[103]⟩ s = none := by cases t <;> cases l <;> cases s <;> cases o <;> kernel_rfl
theorem hid_slots (t l o : Bool) : (slotsK (keepL (hidL t l o)) ⟨#[81]⟩).length = hidN t l o := by cases t <;> cases l <;> cases o <;> kernel_rfl
theorem hid_sz (t l o : Bool) : SzT ((hidL t l o).map skOf) := szT_small (by cases t <;> cases l <;> cases o <;> decide +kernel)
theorem hid_few (t l o : Bool) : ∀ c ∈ hidL t l o, FewC c ∧ FewK c := by
  cases o <;> exact one_all ⟨few_cls (by simp) (by simp) (by simp) nil_all, by simp, nil_all⟩ (one_all ⟨few_cls (by simp) (by simp) (by simp) nil_all, by simp, nil_all⟩ nil_all)
theorem hid_ask (t l o : Bool) : AskK (keepL (hidL t l o)) := askK_of (keep_few (fun c hc => (hid_few t l o c hc).1)) (fun c hc => (hid_few t l o c (keepL_mem _ c hc)).2)
theorem allocs_at : ∀ (os : List Obj) (w : World), (∀ (i : Nat) (o : Obj), os[i]? = some o → (os.foldl World.alloc w).heap[w.heap.size + i]? = some o) ∧ Below w.heap.size w (os.foldl World.alloc w) ∧ (os.foldl World.alloc w).heap.size = w.heap.size + os.length
  | [], w => ⟨fun i o h => by simp at h, Below.refl _ _, rfl⟩
  | o :: os, w => by
    obtain ⟨h1, h2, h3⟩ := allocs_at os (w.alloc o)
    have hz : (w.alloc o).heap.size = w.heap.size + 1 := by simp
    rw [hz] at h1 h2 h3
    refine ⟨fun i o' h => ?_, (below_alR w o).trans (h2.mono (by omega)), by rw [List.foldl_cons, h3, List.length_cons]; omega⟩
    cases i with
    | zero =>
      simp only [List.getElem?_cons_zero, Option.some.injEq] at h
      subst h
      rw [List.foldl_cons, Nat.add_zero, h2.block _ (by omega)]
      exact heap_alloc_new w o
    | succ i =>
      have := h1 i o' (by simpa using h)
      rw [List.foldl_cons, show w.heap.size + (i + 1) = w.heap.size + 1 + i by omega]
      exact this
set_option maxHeartbeats 8000000 in
set_option maxRecDepth 100000 in
theorem hide_l (t l s o : Bool) (w : World) :
    Calls Try.prog 4 #[.bool t, .bool l, .bool s, .bool o] w fun e w' => e = .returned (.bool true) ∧ Below w.heap.size w w' := by
  go_enter Try.func4, Try.ntmps4
  try simp only [List.append_eq, List.cons_append, List.nil_append]
  go_wp2_with fail
  refine (known_9 w).mono ?_
  rintro e w1 ⟨rfl, hb1⟩
  have HB1 := Lib.hid hb1
  clear hb1
  go_upto_region 6 with fail
  obtain ⟨hat, hbl, hsz⟩ := allocs_at [.cells #[.string ⟨#[102]⟩, .int .i64 1, .string ⟨#[]⟩, .bool t] 37, .cells #[.string ⟨#[102]⟩, .int .i64 2, .string ⟨#[]⟩, .bool l] 37, .cells #[.string ⟨#[102]⟩, .int .i64 1, .string ⟨#[]⟩, .bool t] 37,
    .cells #[.string ⟨#[80]⟩, .string ⟨#[79, 98, 106, 101, 99, 116]⟩, .slice none 0 0, .int .i64 1, .slice (some ⟨w1.heap.size + 1 + 1, 0, none⟩) 1 1, .slice none 0 0, .string ⟨#[81]⟩, .string ⟨#[80]⟩, .slice none 0 0, .int .i64 1, .slice none 0 0, .slice none 0 0] 50,
    .cells #[.slice (some ⟨w1.heap.size + 1 + 1 + 1, 0, none⟩) 2 2] 28] w1
  obtain ⟨w6, hw6⟩ : ∃ z, z = List.foldl World.alloc w1 [.cells #[.string ⟨#[102]⟩, .int .i64 1, .string ⟨#[]⟩, .bool t] 37, .cells #[.string ⟨#[102]⟩, .int .i64 2, .string ⟨#[]⟩, .bool l] 37, .cells #[.string ⟨#[102]⟩, .int .i64 1, .string ⟨#[]⟩, .bool t] 37,
    .cells #[.string ⟨#[80]⟩, .string ⟨#[79, 98, 106, 101, 99, 116]⟩, .slice none 0 0, .int .i64 1, .slice (some ⟨w1.heap.size + 1 + 1, 0, none⟩) 1 1, .slice none 0 0, .string ⟨#[81]⟩, .string ⟨#[80]⟩, .slice none 0 0, .int .i64 1, .slice none 0 0, .slice none 0 0] 50,
    .cells #[.slice (some ⟨w1.heap.size + 1 + 1 + 1, 0, none⟩) 2 2] 28] := ⟨_, rfl⟩
  rw [← hw6] at hat hbl hsz
  have HG := Lib.hid (hat 1 _ rfl)
  have HP := Lib.hid (hat 2 _ rfl)
  have HC := Lib.hid (hat 3 _ rfl)
  have HR := Lib.hid (hat 4 _ rfl)
  have HB6 := Lib.hid hbl
  simp only [List.foldl_cons, List.foldl_nil] at hw6
  rw [← hw6]
  clear hat hbl hw6
  simp only [List.length_cons, List.length_nil, Nat.zero_add, Nat.reduceAdd] at hsz
  obtain ⟨a, ha⟩ : ∃ z, w1.heap.size = z := ⟨_, rfl⟩
  rw [ha] at HG HP HC HR hsz
  try rw [ha]
  have HA0 := Lib.hid ha
  clear ha
  simp only [Nat.add_assoc, Nat.reduceAdd] at HG HP HC HR ⊢
  have HFL : Hid (∀ W : World, W.heap[a + 2]? = w6.heap[a + 2]? → RdX 4 (sP fldC) anyB W (.slice (some ⟨a + 2, 0, none⟩) 1 1) [(⟨#[102]⟩, (1, es), t)]) := Lib.hid (fun W hW => rd_block (P := sP fldC) [[.string ⟨#[102]⟩, .int .i64 1, .string ⟨#[]⟩, .bool t]] [(⟨#[102]⟩, (1, es), t)] _ (hW.trans HP.out) rfl trivial ⟨⟨rfl, rfl⟩, trivial⟩ 1 1 rfl (Nat.le_refl _))
  cases o with
  | false =>
    obtain ⟨W, rfl⟩ : ∃ W, W = w6 := ⟨_, rfl⟩
    have HCW := HC
    have HRW := HR
    have HFW := Lib.hid (HFL.out W rfl)
    have HBW : Hid (Below w.heap.size w W) := Lib.hid (HB1.out.trans (HB6.out.mono HB1.out.size))
    clear HC HR HFL HP HG HB6
    go_upto_region 8 with fail
    have x0 := (boxN HRW.out).2.1 0 _ rfl
    have xl := (boxN HRW.out).1
    simp only [Nat.zero_add] at x0
    have HRD : Hid (RdX 6 cP anyB W (.slice (some ⟨a + 3, 0, none⟩) (hidL t l false).length 2) (hidL t l false)) := Lib.hid (rd_block (P := cP) [[.string ⟨#[80]⟩, .string ⟨#[79, 98, 106, 101, 99, 116]⟩, .slice none 0 0, .int .i64 1, .slice (some ⟨a + 2, 0, none⟩) 1 1, .slice none 0 0], [.string ⟨#[81]⟩, .string ⟨#[80]⟩, .slice none 0 0, .int .i64 1, .slice none 0 0, .slice none 0 0]] (hidL t l false) _ HCW.out rfl trivial ⟨⟨⟨_, _, _, rfl, RdX.nil _ _ _ _, HFW.out, RdX.nil _ _ _ _⟩, rfl⟩, ⟨⟨_, _, _, rfl, RdX.nil _ _ _ _, RdX.nil _ _ _ _, RdX.nil _ _ _ _⟩, rfl⟩, trivial⟩ _ _ rfl (Nat.le_refl _))
    clear HCW HFW HRW
    go_wp2_with fail
    refine (New_t (hidL t l false) (some ⟨a + 3, 0, none⟩) 2 anyB W HRD.out (hid_sz t l false) (fun c hc => (hid_few t l false c hc).1)).mono ?_
    rintro e w8 ⟨tb, mb, vs, rfl, ht8, hb8⟩
    have HT := Lib.hid ht8
    have HB8 := Lib.hid (HBW.out.trans (hb8.mono HBW.out.size))
    have HA := Lib.hid (hid_ask t l false)
    have HF := Lib.hid (hid_field t l s false)
    have HN := Lib.hid (hid_none t l s false)
    have HS := Lib.hid (hid_slots t l false)
    obtain ⟨K, hK⟩ : ∃ x, keepL (hidL t l false) = x := ⟨_, rfl⟩
    rw [hK] at HT HA HF HN HS
    obtain ⟨ok, hok⟩ : ∃ x, (fun b => W.heap.size ≤ b) = x := ⟨_, rfl⟩
    rw [hok] at HT
    clear hK hok ht8 hb8 HRD x0 xl
    go_wp2_with fail
    refine (Field_m ok tb mb vs K _ _ _ w8 HT.out (sz_small (by decide)) HA.out).mono ?_
    rw [HF.out]
    rintro e w9 ⟨rfl, hb9⟩
    obtain ⟨nm, hnm⟩ : ∃ x, nmO (hidF t l s false) = x := ⟨_, rfl⟩
    obtain ⟨x, hx⟩ : ∃ x, fdO (hidF t l s false) = x := ⟨_, rfl⟩
    obtain ⟨so, hso⟩ : ∃ x, (hidF t l s false).isSome = x := ⟨_, rfl⟩
    rw [hnm, hx, hso]
    have HNM := Lib.hid hnm
    have HX := Lib.hid hx
    have HSO := Lib.hid hso
    clear hnm hx hso
    obtain ⟨w10, hw10⟩ : ∃ z, z = w9.alloc (.cells #[.string x.1, .int .i64 x.2.1.1, .string x.2.1.2, .bool x.2.2] 37) := ⟨_, rfl⟩
    have HX10 : Hid (w10.heap[w9.heap.size]? = some (.cells #[.string x.1, .int .i64 x.2.1.1, .string x.2.1.2, .bool x.2.2] 37 (0, 0))) := Lib.hid (by rw [hw10]; exact heap_alloc_new _ _)
    have HB10 : Hid (Below w8.heap.size w8 w10) := Lib.hid (by rw [hw10]; exact hb9.trans ((below_alR _ _).mono hb9.size))
    go_upto_region 10 with fail
    rw [← hw10]
    clear hw10 hb9
    obtain ⟨xb, hxb⟩ : ∃ z, w9.heap.size = z := ⟨_, rfl⟩
    rw [hxb] at HX10 ⊢
    clear hxb
    cases t <;> cases l <;> cases s
    all_goals
      have e1 := HNM.out
      have e2 := HX.out
      have e3 := HSO.out
      simp [hidF, nmO, fdO, noF, es] at e1 e2 e3
      subst e1 e2 e3
      clear HNM HX HSO
      go_wp2_with fail
      refine (Field_m ok tb mb vs K _ _ _ w10 (HT.out.below HB10.out) (sz_small (by decide)) HA.out).mono ?_
      rw [HN.out]
      rintro e w11 ⟨rfl, hb11⟩
      simp only [nmO, fdO, noF, es, Option.isSome]
      obtain ⟨w12, hw12⟩ : ∃ z, z = w11.alloc (.cells #[.string ⟨#[]⟩, .int .i64 0, .string ⟨#[]⟩, .bool false] 37) := ⟨_, rfl⟩
      have hb12 : Below w10.heap.size w10 w12 := by rw [hw12]; exact hb11.trans ((below_alR _ _).mono hb11.size)
      have HB12 := Lib.hid (HB10.out.trans (hb12.mono HB10.out.size))
      obtain ⟨yl, yc, -⟩ := boxN ((hb12.block _ (Array.getElem?_eq_some_iff.1 HX10.out).1).trans HX10.out)
      have y1 := yc 1 _ rfl
      have y3 := yc 3 _ rfl
      simp only [Nat.zero_add] at y1 y3
      clear yc hb11 hb12
      go_upto_region 21 with fail
      rw [← hw12]
      clear hw12
      go_wp2_with (go_at_call 11; refine (Slots_m ok tb mb vs K _ w12 (HT.out.below HB12.out) (sz_small (by decide)) HA.out).mono ?_; rw [HS.out]; simp only [hidN]; rintro e w13 ⟨p13, c13, rfl, -, hb13⟩; have HB13 := Lib.hid (HB12.out.trans (hb13.mono HB12.out.size)); clear hb13)
      go_ret
      exact ⟨rfl, HB8.out.trans (HB13.out.mono HB8.out.size)⟩
  | true =>
    obtain ⟨w7, hw7⟩ : ∃ z, z = w6.setCell ⟨a + 3, 10, none⟩ (.slice (some ⟨a + 5, 0, none⟩) 1 1) := ⟨_, rfl⟩
    obtain ⟨W, hW⟩ : ∃ z, z = w7.alloc (.cells #[.string ⟨#[102]⟩, .int .i64 2, .string ⟨#[]⟩, .bool l] 37) := ⟨_, rfl⟩
    have hk7 : Kpt [a + 3] w6 w7 := by rw [hw7]; exact Kpt.set _ _ _ _ _ (by simp)
    have hb7 : Below w7.heap.size w7 W := by rw [hW]; exact below_alR _ _
    have hz7 : w7.heap.size = a + 5 := by rw [hw7]; simpa using hsz
    have hq7 : W.heap[a + 5]? = some (.cells #[.string ⟨#[102]⟩, .int .i64 2, .string ⟨#[]⟩, .bool l] 37 (0, 0)) := by rw [hW, ← hz7]; exact heap_alloc_new _ _
    have HCW : Hid (W.heap[a + 3]? = some (.cells #[.string ⟨#[80]⟩, .string ⟨#[79, 98, 106, 101, 99, 116]⟩, .slice none 0 0, .int .i64 1, .slice (some ⟨a + 2, 0, none⟩) 1 1, .slice none 0 0, .string ⟨#[81]⟩, .string ⟨#[80]⟩, .slice none 0 0, .int .i64 1, .slice (some ⟨a + 5, 0, none⟩) 1 1, .slice none 0 0] 50 (0, 0))) := Lib.hid (by rw [hb7.block _ (by omega), hw7, heap_setCell_same _ _ 10 _ _ _ HC.out]; rfl)
    have HRW : Hid (W.heap[a + 4]? = _) := Lib.hid ((hb7.block _ (by omega)).trans ((hk7.2 _ (by omega) (by simp)).trans HR.out))
    have HFW := Lib.hid (HFL.out W ((hb7.block _ (by omega)).trans (hk7.2 _ (by omega) (by simp))))
    have HQW : Hid (RdX 4 (sP fldC) anyB W (.slice (some ⟨a + 5, 0, none⟩) 1 1) [(⟨#[102]⟩, (2, es), l)]) := Lib.hid (rd_block (P := sP fldC) [[.string ⟨#[102]⟩, .int .i64 2, .string ⟨#[]⟩, .bool l]] [(⟨#[102]⟩, (2, es), l)] _ hq7 rfl trivial ⟨⟨rfl, rfl⟩, trivial⟩ 1 1 rfl (Nat.le_refl _))
    have HBW : Hid (Below w.heap.size w W) := Lib.hid ((HB1.out.trans (HB6.out.mono HB1.out.size)).trans ((hk7.below (fun z hz => by rw [List.mem_singleton.1 hz]; have := HA0.out; have := HB1.out.size; omega) (by have := HA0.out; have := HB1.out.size; omega)).trans (hb7.mono (by have := HA0.out; have := HB1.out.size; omega))))
    obtain ⟨rl, rc, -⟩ := boxN HR.out
    have r0 := rc 0 _ rfl
    obtain ⟨gl, gc, -⟩ := boxN HG.out
    have g0 := gc 0 _ rfl
    have g1 := gc 1 _ rfl
    have g2 := gc 2 _ rfl
    have g3 := gc 3 _ rfl
    obtain ⟨cl, cc, cf⟩ := boxN HC.out
    have c10 := cc 10 _ rfl
    have z10 := cf 10
    simp only [Nat.zero_add] at r0 g0 g1 g2 g3 c10
    have HW := Lib.hid hW
    rw [hw7] at HW
    clear rc gc cc cf hq7 hk7 hb7 hW hw7 HC HR HFL HP HG HB6
    go_upto_region 8 with fail
    rw [← HW.out]
    clear HW r0 g0 g1 g2 g3 c10 z10 rl gl cl
    have x0 := (boxN HRW.out).2.1 0 _ rfl
    have xl := (boxN HRW.out).1
    simp only [Nat.zero_add] at x0
    have HRD : Hid (RdX 6 cP anyB W (.slice (some ⟨a + 3, 0, none⟩) (hidL t l true).length 2) (hidL t l true)) := Lib.hid (rd_block (P := cP) [[.string ⟨#[80]⟩, .string ⟨#[79, 98, 106, 101, 99, 116]⟩, .slice none 0 0, .int .i64 1, .slice (some ⟨a + 2, 0, none⟩) 1 1, .slice none 0 0], [.string ⟨#[81]⟩, .string ⟨#[80]⟩, .slice none 0 0, .int .i64 1, .slice (some ⟨a + 5, 0, none⟩) 1 1, .slice none 0 0]] (hidL t l true) _ HCW.out rfl trivial ⟨⟨⟨_, _, _, rfl, RdX.nil _ _ _ _, HFW.out, RdX.nil _ _ _ _⟩, rfl⟩, ⟨⟨_, _, _, rfl, RdX.nil _ _ _ _, HQW.out, RdX.nil _ _ _ _⟩, rfl⟩, trivial⟩ _ _ rfl (Nat.le_refl _))
    clear HCW HFW HRW
    go_wp2_with fail
    refine (New_t (hidL t l true) (some ⟨a + 3, 0, none⟩) 2 anyB W HRD.out (hid_sz t l true) (fun c hc => (hid_few t l true c hc).1)).mono ?_
    rintro e w8 ⟨tb, mb, vs, rfl, ht8, hb8⟩
    have HT := Lib.hid ht8
    have HB8 := Lib.hid (HBW.out.trans (hb8.mono HBW.out.size))
    have HA := Lib.hid (hid_ask t l true)
    have HF := Lib.hid (hid_field t l s true)
    have HN := Lib.hid (hid_none t l s true)
    have HS := Lib.hid (hid_slots t l true)
    obtain ⟨K, hK⟩ : ∃ x, keepL (hidL t l true) = x := ⟨_, rfl⟩
    rw [hK] at HT HA HF HN HS
    obtain ⟨ok, hok⟩ : ∃ x, (fun b => W.heap.size ≤ b) = x := ⟨_, rfl⟩
    rw [hok] at HT
    clear hK hok ht8 hb8 HRD x0 xl
    go_wp2_with fail
    refine (Field_m ok tb mb vs K _ _ _ w8 HT.out (sz_small (by decide)) HA.out).mono ?_
    rw [HF.out]
    rintro e w9 ⟨rfl, hb9⟩
    obtain ⟨nm, hnm⟩ : ∃ x, nmO (hidF t l s true) = x := ⟨_, rfl⟩
    obtain ⟨x, hx⟩ : ∃ x, fdO (hidF t l s true) = x := ⟨_, rfl⟩
    obtain ⟨so, hso⟩ : ∃ x, (hidF t l s true).isSome = x := ⟨_, rfl⟩
    rw [hnm, hx, hso]
    have HNM := Lib.hid hnm
    have HX := Lib.hid hx
    have HSO := Lib.hid hso
    clear hnm hx hso
    obtain ⟨w10, hw10⟩ : ∃ z, z = w9.alloc (.cells #[.string x.1, .int .i64 x.2.1.1, .string x.2.1.2, .bool x.2.2] 37) := ⟨_, rfl⟩
    have HX10 : Hid (w10.heap[w9.heap.size]? = some (.cells #[.string x.1, .int .i64 x.2.1.1, .string x.2.1.2, .bool x.2.2] 37 (0, 0))) := Lib.hid (by rw [hw10]; exact heap_alloc_new _ _)
    have HB10 : Hid (Below w8.heap.size w8 w10) := Lib.hid (by rw [hw10]; exact hb9.trans ((below_alR _ _).mono hb9.size))
    go_upto_region 10 with fail
    rw [← hw10]
    clear hw10 hb9
    obtain ⟨xb, hxb⟩ : ∃ z, w9.heap.size = z := ⟨_, rfl⟩
    rw [hxb] at HX10 ⊢
    clear hxb
    cases t <;> cases l <;> cases s
    all_goals
      have e1 := HNM.out
      have e2 := HX.out
      have e3 := HSO.out
      simp [hidF, nmO, fdO, noF, es] at e1 e2 e3
      subst e1 e2 e3
      clear HNM HX HSO
      go_wp2_with fail
      refine (Field_m ok tb mb vs K _ _ _ w10 (HT.out.below HB10.out) (sz_small (by decide)) HA.out).mono ?_
      rw [HN.out]
      rintro e w11 ⟨rfl, hb11⟩
      simp only [nmO, fdO, noF, es, Option.isSome]
      obtain ⟨w12, hw12⟩ : ∃ z, z = w11.alloc (.cells #[.string ⟨#[]⟩, .int .i64 0, .string ⟨#[]⟩, .bool false] 37) := ⟨_, rfl⟩
      have hb12 : Below w10.heap.size w10 w12 := by rw [hw12]; exact hb11.trans ((below_alR _ _).mono hb11.size)
      have HB12 := Lib.hid (HB10.out.trans (hb12.mono HB10.out.size))
      obtain ⟨yl, yc, -⟩ := boxN ((hb12.block _ (Array.getElem?_eq_some_iff.1 HX10.out).1).trans HX10.out)
      have y1 := yc 1 _ rfl
      have y3 := yc 3 _ rfl
      simp only [Nat.zero_add] at y1 y3
      clear yc hb11 hb12
      go_upto_region 21 with fail
      rw [← hw12]
      clear hw12
      go_wp2_with (go_at_call 11; refine (Slots_m ok tb mb vs K _ w12 (HT.out.below HB12.out) (sz_small (by decide)) HA.out).mono ?_; rw [HS.out]; simp only [hidN]; rintro e w13 ⟨p13, c13, rfl, -, hb13⟩; have HB13 := Lib.hid (HB12.out.trans (hb13.mono HB12.out.size)); clear hb13)
      go_ret
      exact ⟨rfl, HB8.out.trans (HB13.out.mono HB8.out.size)⟩
end Go.Proofs.Ytjegocecgncpkaa.R
namespace Go.Proofs.Ytjegocecgncpkaa.R
open Go.RowKit Go.Proofs.Ytjegocecgncpkaa.D Go.Proofs.Ytjegocecgncpkaa.O Go.Proofs.Ytjegocecgncpkaa.A
def okV (B a : Nat) (va vw : Value) : Nat → Prop := fun b => B ≤ b ∧ b ≠ a ∧ va.ownBlock ≠ some b ∧ vw.ownBlock ≠ some b
def ArB (w : World) (B a : Nat) (va vw : Value) (rs : List (Raw 6)) (K : List Cls) (L : List ByteArray) : Prop :=
  w.heap[a]? = some (.cells #[va] 28 (0, 0)) ∧ B ≤ a ∧ OwnX 6 50 (sP rawC) w B va rs ∧ All2 (fun r c => cP (okV B a va vw) w (rawC r) c) rs K ∧ va.ownBlock ≠ some a ∧ S.OwnC S.cS 9 w B vw L ∧ vw.ownBlock ≠ some a ∧ ∀ g, va.ownBlock = some g → vw.ownBlock ≠ some g
theorem ArB.lt {w : World} {B a : Nat} {va vw : Value} {rs : List (Raw 6)} {K : List Cls} {L : List ByteArray} (h : ArB w B a va vw rs K L) : a < w.heap.size := (Array.getElem?_eq_some_iff.1 h.1).1
theorem ArB.cells {w : World} {B a : Nat} {va vw : Value} {rs : List (Raw 6)} {K : List Cls} {L : List ByteArray} (h : ArB w B a va vw rs K L) : a < w.heap.size ∧ w.cell? ⟨a, 0, none⟩ = some va ∧ w.frozen? ⟨a, 0, none⟩ = false := by
  have h3 := h.1
  refine ⟨h.lt, ?_, ?_⟩ <;> simp [World.cell?, World.frozen?, h3]
theorem ArB.below {w w' : World} {B a : Nat} {va vw : Value} {rs : List (Raw 6)} {K : List Cls} {L : List ByteArray} (h : ArB w B a va vw rs K L) (hb : Below w.heap.size w w') : ArB w' B a va vw rs K L := by
  have hlt := h.lt
  obtain ⟨h1, h2, h3, h4, h5, h6, h7, h8⟩ := h
  exact ⟨(hb.block _ hlt).trans h1, h2, h3.kptS (.of_below hb : Kpt [] w w') (fun _ _ => by simp), h4.imp (fun r c h => cP.grow _ _ _ _ _ _ h (fun _ h _ => h) (.of_below hb) hb.size), h5, h6.kpt (S.Kpt.of_below (S := []) hb) (by simp), h7, h8⟩
theorem ArB.want {w w' : World} {B a : Nat} {va vw vw' : Value} {rs : List (Raw 6)} {K : List Cls} {L L' : List ByteArray} (h : ArB w B a va vw rs K L) (ho : S.OwnC S.cS 9 w' B vw' L') (hg : w.grownBy w' vw.ownBlock) (hl : vw'.ownBlock = vw.ownBlock ∨ vw'.ownBlock = some w.heap.size) (hB : B ≤ w.heap.size) :
    ArB w' B a va vw' rs K L' ∧ Below B w w' := by
  have hlt := h.lt
  obtain ⟨h1, h2, h3, h4, h5, h6, h7, h8⟩ := h
  have k1 : Kpt vw.ownBlock.toList w w' := .of_grown hg (fun g e => .inl (by rw [e]; simp))
  have hne : ∀ {x : Nat}, x < w.heap.size → vw.ownBlock ≠ some x → vw'.ownBlock ≠ some x := fun {x} hx hv => by
    rcases hl with e | e
    · rw [e]; exact hv
    · rw [e]; simp only [ne_eq, Option.some.injEq]; omega
  refine ⟨⟨(hg.block a hlt (fun e => h7 e.symm)).trans h1, h2, h3.kptS k1 (fun g e hm => h8 g e (by simpa using hm)), h4.imp (fun r c h => cP.grow _ _ _ _ _ _ h (fun b hb hlb => ⟨hb.1, hb.2.1, hb.2.2.1, hne hlb hb.2.2.2⟩) (.of_kpt k1 (fun b hb => by simpa using fun e => hb.2.2.2 e)) hg.size), h5, ho, hne hlt h7, fun g e => hne (h3.lt g e).2 (h8 g e)⟩, ⟨hg.os, hg.tape, hg.output, hg.size, fun k hk => hg.block k (by omega) (fun e => by have := (h6.lt k e.symm).1; omega)⟩⟩
theorem ArB.app {w w1 : World} {B a : Nat} {va vw v' : Value} {rs : List (Raw 6)} {K : List Cls} {L : List ByteArray} {rX : Raw 6} {c : Cls} (h : ArB w B a va vw rs K L) (hB : B ≤ w.heap.size) (hm : cP (okV B a va vw) w (rawC rX) c) (ho : OwnX 6 50 (sP rawC) w1 B v' (rs ++ [rX])) (hg : w.grownBy w1 va.ownBlock) (hl : v'.ownBlock = va.ownBlock ∨ v'.ownBlock = some w.heap.size) :
    a < w1.heap.size ∧ w1.cell? ⟨a, 0, none⟩ = some va ∧ w1.frozen? ⟨a, 0, none⟩ = false ∧ ArB (w1.setCell ⟨a, 0, none⟩ v') B a v' vw (rs ++ [rX]) (K ++ [c]) L ∧ Below B w (w1.setCell ⟨a, 0, none⟩ v') := by
  have hlt := h.lt
  obtain ⟨h1, h2, h3, h4, h5, h6, h7, h8⟩ := h
  have hw1 : w1.heap[a]? = some (.cells #[va] 28 (0, 0)) := by rw [hg.block a hlt (fun e => h5 e.symm)]; exact h1
  have k1 : Kpt va.ownBlock.toList w w1 := .of_grown hg (fun g e => .inl (by rw [e]; simp))
  have k2 : Kpt [a] w1 (w1.setCell ⟨a, 0, none⟩ v') := Kpt.set _ _ _ _ _ (by simp)
  have hne : ∀ {x : Nat}, x < w.heap.size → va.ownBlock ≠ some x → v'.ownBlock ≠ some x := fun {x} hx hv => by
    rcases hl with e | e
    · rw [e]; exact hv
    · rw [e]; simp only [ne_eq, Option.some.injEq]; omega
  have kk : Keeps (okV B a va vw) w (w1.setCell ⟨a, 0, none⟩ v') := fun b hb hlb => by
    rw [k2.2 b (Nat.lt_of_lt_of_le hlb hg.size) (by simpa using hb.2.1), k1.2 b hlb (by simpa using fun e => hb.2.2.1 e)]
  have hoo : ∀ b, okV B a va vw b → b < w.heap.size → okV B a v' vw b := fun b hb hlb => ⟨hb.1, hb.2.1, hne hlb hb.2.2.1, hb.2.2.2⟩
  have hsz : w.heap.size ≤ (w1.setCell ⟨a, 0, none⟩ v').heap.size := Nat.le_trans hg.size k2.size
  have hv8 : ∀ g, v'.ownBlock = some g → vw.ownBlock ≠ some g := fun g e e2 => by
    rcases hl with e' | e'
    · exact h8 g (by rw [← e']; exact e) e2
    · rw [e'] at e
      cases e
      exact Nat.lt_irrefl _ (h6.lt _ e2).2
  refine ⟨Nat.lt_of_lt_of_le hlt hg.size, by simp [World.cell?, hw1], by simp [World.frozen?, hw1], ⟨?_, h2, ho.kptS k2 (fun g e => by simp; rintro rfl; exact hne hlt h5 e), ?_, hne hlt h5, (h6.kpt k1 (fun g e hm => h8 g (by simpa using hm) e)).kpt k2 (fun g e => by simp; rintro rfl; exact h7 e), h7, hv8⟩, ?_⟩
  · rw [heap_setCell_same w1 a 0 _ _ _ hw1]; rfl
  · exact (h4.imp (fun r x h => cP.grow _ _ _ _ _ _ h hoo kk hsz)).app ⟨cP.grow _ _ _ _ _ _ hm hoo kk hsz, trivial⟩
  · have b1 : Below B w w1 := ⟨hg.os, hg.tape, hg.output, hg.size, fun k hk => hg.block k (by omega) (fun e => by have := (h3.lt k e.symm).1; omega)⟩
    exact b1.trans (k2.below (fun x hx => by simp at hx; omega) (Nat.le_trans hB hg.size))
theorem ArB.rd {w : World} {B a : Nat} {va vw : Value} {rs : List (Raw 6)} {K : List Cls} {L : List ByteArray} (h : ArB w B a va vw rs K L) : RdX 6 cP (fun b => B ≤ b) w va K := by
  obtain ⟨h1, h2, h3, h4, h5, h6, h7, h8⟩ := h
  exact (h3.rd (sP.grow _)).raw (h4.imp (fun r x h => cP.grow _ _ _ _ _ _ h (fun b hb _ => hb.1) (fun _ _ _ => rfl) (Nat.le_refl _)))
theorem ArB.len {w : World} {B a : Nat} {va vw : Value} {rs : List (Raw 6)} {K : List Cls} {L : List ByteArray} (h : ArB w B a va vw rs K L) : rs.length = K.length ∧ ∃ p c, va = .slice p K.length c := by
  have hl := h.2.2.2.1.len
  obtain ⟨p, c, e, _⟩ := (h.2.2.1.rd (sP.grow _)).len
  rw [hl] at e
  exact ⟨hl, p, c, e⟩
theorem hp1 (w : World) (cs : Array Value) (T : TypeId) (X Y : Obj) : (((w.alloc (.cells cs T)).alloc X).alloc Y).drew.heap[w.heap.size]? = some (.cells cs T (0, 0)) := by
  show (((w.alloc (.cells cs T)).alloc X).alloc Y).heap[w.heap.size]? = _
  exact ((below_alR _ Y).block _ (by simp <;> omega)).trans (((below_alR _ X).block _ (by simp)).trans (heap_alloc_new w (.cells cs T)))
theorem hp2 (w : World) (cs : Array Value) (T : TypeId) (X Y : Obj) : (((w.alloc X).alloc (.cells cs T)).alloc Y).drew.heap[w.heap.size + 1]? = some (.cells cs T (0, 0)) := by
  show (((w.alloc X).alloc (.cells cs T)).alloc Y).heap[w.heap.size + 1]? = _
  have h := heap_alloc_new (w.alloc X) (.cells cs T)
  rw [World.size_alloc] at h
  exact ((below_alR _ Y).block _ (by simp)).trans h
theorem hp3 (w : World) (cs : Array Value) (T : TypeId) (X Y : Obj) : (((w.alloc X).alloc Y).alloc (.cells cs T)).drew.heap[w.heap.size + 1 + 1]? = some (.cells cs T (0, 0)) := by
  show (((w.alloc X).alloc Y).alloc (.cells cs T)).heap[w.heap.size + 1 + 1]? = _
  have h := heap_alloc_new ((w.alloc X).alloc Y) (.cells cs T)
  rw [World.size_alloc, World.size_alloc] at h
  exact h
theorem hp_below (w : World) (X Y Z : Obj) : Below w.heap.size w (((w.alloc X).alloc Y).alloc Z).drew :=
  ((below_alR w X).trans (((below_alR _ Y).mono (by simp)).trans ((below_alR _ Z).mono (by simp <;> omega)))).drew
theorem nm_first (w : World) (c : Value) (X Y : Obj) : (((w.alloc (.cells #[c] 5)).alloc X).alloc Y).drew.cell? ⟨w.heap.size, 0, none⟩ = some c := by simp only [World.cell?, hp1]; rfl
theorem nm_second (w : World) (c : Value) (X Y : Obj) : (((w.alloc X).alloc (.cells #[c] 5)).alloc Y).drew.cell? ⟨w.heap.size + 1, 0, none⟩ = some c := by simp only [World.cell?, hp2]; rfl
theorem nm_third (w : World) (c : Value) (X Y : Obj) : (((w.alloc X).alloc Y).alloc (.cells #[c] 5)).drew.cell? ⟨w.heap.size + 1 + 1, 0, none⟩ = some c := by simp only [World.cell?, hp3]; rfl
def nmV (i : Nat) : ByteArray := bx [UInt8.ofNat (65 + i)]
theorem conv_nm (i : Nat) (hi : i < 4) (g : Nat) (W : World) (h : W.cell? ⟨g, 0, none⟩ = some (.int .u8 (65 + (i : Int)))) : (convert 52 9 (.slice (some ⟨g, 0, none⟩) 1 1)).run Try.prog W = .ok (.string (nmV i)) W :=
  run_convert_bytes_back W 52 9 5 ⟨g, 0, none⟩ 1 [UInt8.ofNat (65 + i)] Try.underlying52 Try.underlying5 Try.underlying9 (fun j hj => by
    match j, hj with
    | 0, _ =>
      have e : ((UInt8.ofNat (65 + i)).toNat : Int) = 65 + (i : Int) := by rw [UInt8.toNat_ofNat']; omega
      show W.cell? (Addr.add ⟨g, 0, none⟩ 0) = some (.int .u8 ((UInt8.ofNat (65 + i)).toNat : Int))
      rw [e, ← h]
      simp [Addr.add])
def supV (i : Nat) : ByteArray := if i = 0 then objT else nmV (i - 1)
end Go.Proofs.Ytjegocecgncpkaa.R
