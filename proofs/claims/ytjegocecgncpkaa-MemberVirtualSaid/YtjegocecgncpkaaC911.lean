/- Texts that the proof is made of, joined. No condition. -/
import Derived.Test.YtjegocecgncpkaaC910
import Derived.Test.YtjegocecgncpkaaC98
import Derived.Test.YtjegocecgncpkaaC99
import Derived.Lib.SliceRun
import Derived.Test.YtjegocecgncpkaaC9H
set_option linter.unusedVariables false
set_option linter.unusedSimpArgs false
set_option maxRecDepth 100000
set_option maxHeartbeats 16000000
namespace Go.Proofs.Ytjegocecgncpkaa.R
open Go.RowKit Go.Proofs.Ytjegocecgncpkaa.D Go.Proofs.Ytjegocecgncpkaa.O Go.Proofs.Ytjegocecgncpkaa.A
def AskK (K : List Cls) : Prop := (∀ c ∈ K, FewC c) ∧ (∀ n, ∀ m ∈ (clsK K n).methods, SzM m) ∧ ∀ n, (clsK K n).fields.length ≤ 900
theorem chain_few {K : List Cls} (h : SzT (K.map skOf)) (n : ByteArray) : (chainT (K.map skOf) n).1.length ≤ 1000000 ∧ ∀ x ∈ (chainT (K.map skOf) n).1, x.size ≤ maxLen := by
  have h1 := (chain_kn (K.map skOf) n).len
  have h2 := h.1
  exact ⟨by omega, h.kn (chain_kn _ n)⟩
theorem ifaces_few {K : List Cls} (h : SzT (K.map skOf)) (n : ByteArray) : (ifacesT (K.map skOf) n).length ≤ 1000000 ∧ ∀ x ∈ ifacesT (K.map skOf) n, x.size ≤ maxLen := by
  have h1 := (closed_kn (K.map skOf) (wideT (K.map skOf) n)).len
  have h2 := h.1
  exact ⟨by unfold ifacesT; omega, h.kn (closed_kn _ _)⟩
set_option maxHeartbeats 4000000 in
set_option maxRecDepth 100000 in
theorem Field_m (ok : Nat → Prop) (tb mt : Nat) (vs : Value) (K : List Cls) (n : ByteArray) (name : ByteArray) (st : Bool) (w : World) (h : TrW w ok tb mt vs K) (hn : n.size ≤ maxLen) (ha : AskK K) :
    Calls Try.prog 13 #[.pointer (some ⟨tb, 0, none⟩), .string n, .string name, .bool st] w fun e w' => e = .returned (.tuple #[.string (nmO (fieldK K n name st)), .agg #[.string (fdO (fieldK K n name st)).1, .int .i64 (fdO (fieldK K n name st)).2.1.1, .string (fdO (fieldK K n name st)).2.1.2, .bool (fdO (fieldK K n name st)).2.2], .bool (fieldK K n name st).isSome]) ∧ Below w.heap.size w w' := by
  have eg : ∀ args w, (callFunc 34 args).run Try.prog w = .ok (.enter 34 args) w := enters_of Try.func34 (by kernel_rfl) rfl
  have HO : Hid (firstL K (·.fields) (fldQ name st) (chainT (K.map skOf) n).1 = (fieldK K n name st)) := Lib.hid rfl
  obtain ⟨o, ho⟩ : ∃ x, (fieldK K n name st) = x := ⟨_, rfl⟩
  rw [ho] at HO ⊢
  clear ho
  have HT := Lib.hid h
  have HA := Lib.hid ha
  have HS := Lib.hid h.2.2.2.2.2
  clear h ha
  obtain ⟨w0, hw0⟩ : ∃ x, x = ((w.alloc (.cells #[.string name] 9)).alloc (.cells #[.bool st] 4)).alloc (.cells #[.string ⟨#[]⟩, .int .i64 0, .string ⟨#[]⟩, .bool false] 37) := ⟨_, rfl⟩
  have HB0 : Hid (Below w.heap.size w w0) := Lib.hid (by rw [hw0]; exact (((Below.refl _ w).alloc (Nat.le_refl _) _).alloc (by simp) _).alloc (by simp; omega) _)
  have hs0 : w0.heap.size = w.heap.size + 3 := by rw [hw0]; simp
  have HX0 : Hid (w0.heap[w.heap.size + 2]? = some (.cells #[.string ⟨#[]⟩, .int .i64 0, .string ⟨#[]⟩, .bool false] 37 (0, 0))) := Lib.hid (by rw [hw0]; have := heap_alloc_new ((w.alloc (.cells #[.string name] 9)).alloc (.cells #[.bool st] 4)) (.cells #[.string ⟨#[]⟩, .int .i64 0, .string ⟨#[]⟩, .bool false] 37); simpa using this)
  have HC1 : Hid (w0.cell? ⟨w.heap.size, 0, none⟩ = some (.string name)) := Lib.hid (by rw [hw0]; exact ((below_alR _ _).cell (p := ⟨w.heap.size, 0, none⟩) (by simp <;> omega)).trans (((below_alR _ _).cell (p := ⟨w.heap.size, 0, none⟩) (by simp <;> omega)).trans (by have := (boxN (heap_alloc_new w (.cells #[.string name] 9))).2.1 0 _ rfl; exact this)))
  have HC2 : Hid (w0.cell? ⟨w.heap.size + 1, 0, none⟩ = some (.bool st)) := Lib.hid (by rw [hw0]; exact ((below_alR _ _).cell (p := ⟨w.heap.size + 1, 0, none⟩) (by simp <;> omega)).trans (by have := (boxN (heap_alloc_new (w.alloc (.cells #[.string name] 9)) (.cells #[.bool st] 4))).2.1 0 _ rfl; rw [World.size_alloc] at this; exact this))
  go_enter Try.func13, Try.ntmps13
  go_upto_region 1 with fail
  try simp only [World.size_alloc, Nat.add_assoc, Nat.reduceAdd]
  rw [← hw0]
  clear hw0
  obtain ⟨B, hB⟩ : ∃ x, w.heap.size = x := ⟨_, rfl⟩
  rw [hB] at HB0 hs0 HX0 HC1 HC2
  try rw [hB]
  have HBB := Lib.hid hB
  clear hB
  go_upto_region 2 with fail
  go_wp2_with fail
  refine (chain_m ok tb mt vs K n w0 (HT.out.below (by rw [HBB.out]; exact HB0.out)) hn).mono ?_
  rintro e w1 ⟨p1, c1, rfl, ho1, hb1⟩
  have HB1 := Lib.hid hb1
  have HL := Lib.hid (chain_few HS.out n)
  have HR1 := Lib.hid (own_str ho1)
  obtain ⟨L, hL⟩ : ∃ l, (chainT (K.map skOf) n).1 = l := ⟨_, rfl⟩
  rw [hL] at HR1 HL HO ⊢
  clear hL ho1 hb1
  have HT1 := Lib.hid (HT.out.below (by rw [HBB.out]; exact HB0.out.trans (HB1.out.mono (by omega))))
  go_wp2_with fail
  refine (first_f ok tb mt vs K p1 c1 _ L 34 #[.pointer (some ⟨B, 0, none⟩), .pointer (some ⟨B + 1, 0, none⟩)] (fldQ name st) w1 HT1.out HA.out.1 HR1.out HL.out.2 HL.out.1 eg (fun W x hb => isf_m x name st B (B + 1) W ((hb.cell (p := ⟨B, 0, none⟩) (by have := HB1.out.size; show B < _; omega)).trans ((HB1.out.cell (p := ⟨B, 0, none⟩) (by show B < _; omega)).trans HC1.out)) ((hb.cell (p := ⟨B + 1, 0, none⟩) (by have := HB1.out.size; show B + 1 < _; omega)).trans ((HB1.out.cell (p := ⟨B + 1, 0, none⟩) (by show B + 1 < _; omega)).trans HC2.out)) (by have := HB1.out.size; have := hb.size; omega) (by have := HB1.out.size; have := hb.size; omega))).mono ?_
  rw [HO.out]
  rintro e w2 ⟨rfl, hb2⟩
  have hX2 : w2.heap[B + 2]? = _ := (hb2.block _ (by have := HB1.out.size; omega)).trans ((HB1.out.block _ (by omega)).trans HX0.out)
  have HB2 := Lib.hid hb2
  
  have hz1 := HB1.out.size
  have hz2 := hb2.size
  obtain ⟨nm, hnm⟩ : ∃ x, nmO o = x := ⟨_, rfl⟩
  obtain ⟨x, hx⟩ : ∃ x, fdO o = x := ⟨_, rfl⟩
  obtain ⟨so, hso⟩ : ∃ x, o.isSome = x := ⟨_, rfl⟩
  rw [hnm, hx, hso]
  
  have HNM := Lib.hid hnm
  have HMX := Lib.hid hx
  have HSO := Lib.hid hso
  clear hnm hx hso hb2 
  obtain ⟨xb, hxb⟩ : ∃ z, B + 2 = z := ⟨_, rfl⟩
  rw [hxb] at hX2
  try rw [hxb]
  have HX2 := Lib.hid hX2
  have HXB := Lib.hid hxb
  clear hxb
  obtain ⟨bl, bc, bf⟩ := boxN hX2
  have b0 := bc 0 _ rfl; have bz0 := bf 0; have b1 := bc 1 _ rfl; have bz1 := bf 1; have b2 := bc 2 _ rfl; have bz2 := bf 2; have b3 := bc 3 _ rfl; have bz3 := bf 3; simp only [Nat.zero_add] at b0 b1 b2 b3
  clear bc bf hX2
  have hS := set4 (v0 := .string x.1) (v1 := .int .i64 x.2.1.1) (v2 := .string x.2.1.2) (v3 := .bool x.2.2) HX2.out
  obtain ⟨W7, hW7⟩ : ∃ z, z = ((((w2.setCell ⟨xb, 0, none⟩ (.string x.1)).setCell ⟨xb, 1, none⟩ (.int .i64 x.2.1.1)).setCell ⟨xb, 2, none⟩ (.string x.2.1.2)).setCell ⟨xb, 3, none⟩ (.bool x.2.2)) := ⟨_, rfl⟩
  rw [← hW7] at hS
  obtain ⟨r9, rk⟩ := hS
  have HRK := Lib.hid rk
  obtain ⟨-, rc, -⟩ := boxN r9
  have r0 := rc 0 _ rfl; have r1 := rc 1 _ rfl; have r2 := rc 2 _ rfl; have r3 := rc 3 _ rfl; simp only [Nat.zero_add] at r0 r1 r2 r3
  have HW7 := Lib.hid hW7
  clear hW7 r9 rk rc
  go_wp2_with fail
  rw [← HW7.out]
  clear b0 bz0 b1 bz1 b2 bz2 b3 bz3 bl
  refine bodyPost_ret (v := .tuple #[.string nm, .agg #[.string x.1, .int .i64 x.2.1.1, .string x.2.1.2, .bool x.2.2], .bool so]) (by simp [*, results, Try.results13, go_sem]) rfl ?_
  have hbb : Below w.heap.size w W7 := by
    rw [HBB.out]
    exact (HB0.out.trans ((HB1.out.trans (HB2.out.mono (by omega))).mono (by omega))).trans (HRK.out.below (fun z hz => by rw [List.mem_singleton.1 hz]; have := HXB.out; omega) (by omega))
  rw [HNM.out, HMX.out, HSO.out]
  exact ⟨rfl, hbb⟩
set_option maxHeartbeats 4000000 in
set_option maxRecDepth 100000 in
theorem Virtual_m (ok : Nat → Prop) (tb mt : Nat) (vs : Value) (K : List Cls) (n : ByteArray) (name d : ByteArray) (w : World) (h : TrW w ok tb mt vs K) (hn : n.size ≤ maxLen) (ha : AskK K) :
    Calls Try.prog 14 #[.pointer (some ⟨tb, 0, none⟩), .string n, .string name, .string d] w fun e w' => AnsM (virtualK K n name d) w e w' := by
  have eg : ∀ args w, (callFunc 38 args).run Try.prog w = .ok (.enter 38 args) w := enters_of Try.func38 (by kernel_rfl) rfl
  have HO : Hid (firstL K (·.methods) (virQ name d) (chainT (K.map skOf) n).1 = (virtualK K n name d)) := Lib.hid rfl
  obtain ⟨o, ho⟩ : ∃ x, (virtualK K n name d) = x := ⟨_, rfl⟩
  rw [ho] at HO ⊢
  clear ho
  have HT := Lib.hid h
  have HA := Lib.hid ha
  have HS := Lib.hid h.2.2.2.2.2
  clear h ha
  obtain ⟨w0, hw0⟩ : ∃ x, x = ((w.alloc (.cells #[.string name] 9)).alloc (.cells #[.string d] 9)).alloc (.cells #[.string ⟨#[]⟩, .slice none 0 0, .int .i64 0, .string ⟨#[]⟩, .bool false, .bool false, .int .i64 0, .slice none 0 0, .slice none 0 0] 44) := ⟨_, rfl⟩
  have HB0 : Hid (Below w.heap.size w w0) := Lib.hid (by rw [hw0]; exact (((Below.refl _ w).alloc (Nat.le_refl _) _).alloc (by simp) _).alloc (by simp; omega) _)
  have hs0 : w0.heap.size = w.heap.size + 3 := by rw [hw0]; simp
  have HX0 : Hid (w0.heap[w.heap.size + 2]? = some (.cells #[.string ⟨#[]⟩, .slice none 0 0, .int .i64 0, .string ⟨#[]⟩, .bool false, .bool false, .int .i64 0, .slice none 0 0, .slice none 0 0] 44 (0, 0))) := Lib.hid (by rw [hw0]; have := heap_alloc_new ((w.alloc (.cells #[.string name] 9)).alloc (.cells #[.string d] 9)) (.cells #[.string ⟨#[]⟩, .slice none 0 0, .int .i64 0, .string ⟨#[]⟩, .bool false, .bool false, .int .i64 0, .slice none 0 0, .slice none 0 0] 44); simpa using this)
  have HC1 : Hid (w0.cell? ⟨w.heap.size, 0, none⟩ = some (.string name)) := Lib.hid (by rw [hw0]; exact ((below_alR _ _).cell (p := ⟨w.heap.size, 0, none⟩) (by simp <;> omega)).trans (((below_alR _ _).cell (p := ⟨w.heap.size, 0, none⟩) (by simp <;> omega)).trans (by have := (boxN (heap_alloc_new w (.cells #[.string name] 9))).2.1 0 _ rfl; exact this)))
  have HC2 : Hid (w0.cell? ⟨w.heap.size + 1, 0, none⟩ = some (.string d)) := Lib.hid (by rw [hw0]; exact ((below_alR _ _).cell (p := ⟨w.heap.size + 1, 0, none⟩) (by simp <;> omega)).trans (by have := (boxN (heap_alloc_new (w.alloc (.cells #[.string name] 9)) (.cells #[.string d] 9))).2.1 0 _ rfl; rw [World.size_alloc] at this; exact this))
  go_enter Try.func14, Try.ntmps14
  go_upto_region 1 with fail
  try simp only [World.size_alloc, Nat.add_assoc, Nat.reduceAdd]
  rw [← hw0]
  clear hw0
  obtain ⟨B, hB⟩ : ∃ x, w.heap.size = x := ⟨_, rfl⟩
  rw [hB] at HB0 hs0 HX0 HC1 HC2
  try rw [hB]
  have HBB := Lib.hid hB
  clear hB
  go_upto_region 2 with fail
  go_wp2_with fail
  refine (chain_m ok tb mt vs K n w0 (HT.out.below (by rw [HBB.out]; exact HB0.out)) hn).mono ?_
  rintro e w1 ⟨p1, c1, rfl, ho1, hb1⟩
  have HB1 := Lib.hid hb1
  have HL := Lib.hid (chain_few HS.out n)
  have HR1 := Lib.hid (own_str ho1)
  obtain ⟨L, hL⟩ : ∃ l, (chainT (K.map skOf) n).1 = l := ⟨_, rfl⟩
  rw [hL] at HR1 HL HO ⊢
  clear hL ho1 hb1
  have HT1 := Lib.hid (HT.out.below (by rw [HBB.out]; exact HB0.out.trans (HB1.out.mono (by omega))))
  go_wp2_with fail
  refine (first_m ok tb mt vs K p1 c1 _ L 38 #[.pointer (some ⟨B, 0, none⟩), .pointer (some ⟨B + 1, 0, none⟩)] (virQ name d) w1 HT1.out HA.out.1 HA.out.2.1 HR1.out HL.out.2 HL.out.1 eg (fun W x okk pp pc ph np cp nc cc nh ch hz hb hm => by obtain ⟨_, _, _, hv, q1, -⟩ := hm; simp only [List.cons.injEq, and_true, true_and] at hv; obtain ⟨rfl, -⟩ := hv; exact isv_m x pp pc ph np cp nc cc nh ch name d B (B + 1) okk W q1 hz ((hb.cell (p := ⟨B, 0, none⟩) (by have := HB1.out.size; show B < _; omega)).trans ((HB1.out.cell (p := ⟨B, 0, none⟩) (by show B < _; omega)).trans HC1.out)) ((hb.cell (p := ⟨B + 1, 0, none⟩) (by have := HB1.out.size; show B + 1 < _; omega)).trans ((HB1.out.cell (p := ⟨B + 1, 0, none⟩) (by show B + 1 < _; omega)).trans HC2.out)) (by have := HB1.out.size; have := hb.size; omega) (by have := HB1.out.size; have := hb.size; omega))).mono ?_
  rw [HO.out]
  rintro e w2 ⟨pp, np, cp, pc, nc, cc, ph, nh, ch, rfl, hmp, hb2⟩
  have hX2 : w2.heap[B + 2]? = _ := (hb2.block _ (by have := HB1.out.size; omega)).trans ((HB1.out.block _ (by omega)).trans HX0.out)
  have HB2 := Lib.hid hb2
  have HMP := Lib.hid hmp
  have hz1 := HB1.out.size
  have hz2 := hb2.size
  obtain ⟨nm, hnm⟩ : ∃ x, nmO o = x := ⟨_, rfl⟩
  obtain ⟨x, hx⟩ : ∃ x, mtO o = x := ⟨_, rfl⟩
  obtain ⟨so, hso⟩ : ∃ x, o.isSome = x := ⟨_, rfl⟩
  rw [hnm, hx, hso]
  rw [hx] at HMP
  have HNM := Lib.hid hnm
  have HMX := Lib.hid hx
  have HSO := Lib.hid hso
  clear hnm hx hso hb2 hmp
  obtain ⟨xb, hxb⟩ : ∃ z, B + 2 = z := ⟨_, rfl⟩
  rw [hxb] at hX2
  try rw [hxb]
  have HX2 := Lib.hid hX2
  have HXB := Lib.hid hxb
  clear hxb
  obtain ⟨bl, bc, bf⟩ := boxN hX2
  have b0 := bc 0 _ rfl; have bz0 := bf 0; have b1 := bc 1 _ rfl; have bz1 := bf 1; have b2 := bc 2 _ rfl; have bz2 := bf 2; have b3 := bc 3 _ rfl; have bz3 := bf 3; have b4 := bc 4 _ rfl; have bz4 := bf 4; have b5 := bc 5 _ rfl; have bz5 := bf 5; have b6 := bc 6 _ rfl; have bz6 := bf 6; have b7 := bc 7 _ rfl; have bz7 := bf 7; have b8 := bc 8 _ rfl; have bz8 := bf 8; simp only [Nat.zero_add] at b0 b1 b2 b3 b4 b5 b6 b7 b8
  clear bc bf hX2
  have hS := set9 (v0 := .string x.name) (v1 := .slice pp np cp) (v2 := .int .i64 x.ret.1) (v3 := .string x.ret.2) (v4 := .bool x.st) (v5 := .bool x.ab) (v6 := .int .i64 x.locals) (v7 := .slice pc nc cc) (v8 := .slice ph nh ch) HX2.out
  obtain ⟨W7, hW7⟩ : ∃ z, z = (((((((((w2.setCell ⟨xb, 0, none⟩ (.string x.name)).setCell ⟨xb, 1, none⟩ (.slice pp np cp)).setCell ⟨xb, 2, none⟩ (.int .i64 x.ret.1)).setCell ⟨xb, 3, none⟩ (.string x.ret.2)).setCell ⟨xb, 4, none⟩ (.bool x.st)).setCell ⟨xb, 5, none⟩ (.bool x.ab)).setCell ⟨xb, 6, none⟩ (.int .i64 x.locals)).setCell ⟨xb, 7, none⟩ (.slice pc nc cc)).setCell ⟨xb, 8, none⟩ (.slice ph nh ch)) := ⟨_, rfl⟩
  rw [← hW7] at hS
  obtain ⟨r9, rk⟩ := hS
  have HRK := Lib.hid rk
  obtain ⟨-, rc, -⟩ := boxN r9
  have r0 := rc 0 _ rfl; have r1 := rc 1 _ rfl; have r2 := rc 2 _ rfl; have r3 := rc 3 _ rfl; have r4 := rc 4 _ rfl; have r5 := rc 5 _ rfl; have r6 := rc 6 _ rfl; have r7 := rc 7 _ rfl; have r8 := rc 8 _ rfl; simp only [Nat.zero_add] at r0 r1 r2 r3 r4 r5 r6 r7 r8
  have HW7 := Lib.hid hW7
  clear hW7 r9 rk rc
  go_wp2_with fail
  rw [← HW7.out]
  clear b0 bz0 b1 bz1 b2 bz2 b3 bz3 b4 bz4 b5 bz5 b6 bz6 b7 bz7 b8 bz8 bl
  refine bodyPost_ret (v := .tuple #[.string nm, .agg #[.string x.name, .slice pp np cp, .int .i64 x.ret.1, .string x.ret.2, .bool x.st, .bool x.ab, .int .i64 x.locals, .slice pc nc cc, .slice ph nh ch], .bool so]) (by simp [*, results, Try.results14, go_sem]) rfl ?_
  have hbb : Below w.heap.size w W7 := by
    rw [HBB.out]
    exact (HB0.out.trans ((HB1.out.trans (HB2.out.mono (by omega))).mono (by omega))).trans (HRK.out.below (fun z hz => by rw [List.mem_singleton.1 hz]; have := HXB.out; omega) (by omega))
  unfold AnsM
  rw [HNM.out, HMX.out, HSO.out]
  refine ⟨_, _, _, _, _, _, _, _, _, rfl, ?_, hbb⟩
  exact mP.grow _ _ w2 W7 _ _ HMP.out (fun b (hb : w1.heap.size ≤ b) _ => (show w.heap.size ≤ b by have := HBB.out; omega)) (fun b (hb : w1.heap.size ≤ b) hlb => HRK.out.2 b hlb (by have := HXB.out; simp; omega)) HRK.out.size
theorem method_yes {K : List Cls} {n name d : ByteArray} {y : ByteArray × Mth} (h : firstL K (·.methods) (mthQ name d) (chainT (K.map skOf) n).1 = some y) : methodK K n name d = some y := by unfold methodK; rw [h]
theorem method_no {K : List Cls} {n name d : ByteArray} (h : firstL K (·.methods) (mthQ name d) (chainT (K.map skOf) n).1 = none) : methodK K n name d = firstL K (·.methods) (mthQ name d) (ifacesT (K.map skOf) n) := by unfold methodK; rw [h]
set_option maxHeartbeats 4000000 in
set_option maxRecDepth 100000 in
theorem Method_m (ok : Nat → Prop) (tb mt : Nat) (vs : Value) (K : List Cls) (n : ByteArray) (name d : ByteArray) (w : World) (h : TrW w ok tb mt vs K) (hn : n.size ≤ maxLen) (ha : AskK K) :
    Calls Try.prog 15 #[.pointer (some ⟨tb, 0, none⟩), .string n, .string name, .string d] w fun e w' => AnsM (methodK K n name d) w e w' := by
  have eg : ∀ args w, (callFunc 42 args).run Try.prog w = .ok (.enter 42 args) w := enters_of Try.func42 (by kernel_rfl) rfl
  have HY : Hid (∀ y, firstL K (·.methods) (mthQ name d) (chainT (K.map skOf) n).1 = some y → methodK K n name d = some y) := Lib.hid (fun y h => method_yes h)
  have HNO := Lib.hid (@method_no K n name d)
  obtain ⟨o, ho⟩ : ∃ x, methodK K n name d = x := ⟨_, rfl⟩
  rw [ho] at HY HNO ⊢
  clear ho
  have HT := Lib.hid h
  have HA := Lib.hid ha
  have HS := Lib.hid h.2.2.2.2.2
  clear h ha
  obtain ⟨w0, hw0⟩ : ∃ x, x = ((w.alloc (.cells #[.string name] 9)).alloc (.cells #[.string d] 9)).alloc (.cells #[.string ⟨#[]⟩, .slice none 0 0, .int .i64 0, .string ⟨#[]⟩, .bool false, .bool false, .int .i64 0, .slice none 0 0, .slice none 0 0] 44) := ⟨_, rfl⟩
  have HB0 : Hid (Below w.heap.size w w0) := Lib.hid (by rw [hw0]; exact (((Below.refl _ w).alloc (Nat.le_refl _) _).alloc (by simp) _).alloc (by simp; omega) _)
  have hs0 : w0.heap.size = w.heap.size + 3 := by rw [hw0]; simp
  have HX0 : Hid (w0.heap[w.heap.size + 2]? = some (.cells #[.string ⟨#[]⟩, .slice none 0 0, .int .i64 0, .string ⟨#[]⟩, .bool false, .bool false, .int .i64 0, .slice none 0 0, .slice none 0 0] 44 (0, 0))) := Lib.hid (by rw [hw0]; have := heap_alloc_new ((w.alloc (.cells #[.string name] 9)).alloc (.cells #[.string d] 9)) (.cells #[.string ⟨#[]⟩, .slice none 0 0, .int .i64 0, .string ⟨#[]⟩, .bool false, .bool false, .int .i64 0, .slice none 0 0, .slice none 0 0] 44); simpa using this)
  have HC1 : Hid (w0.cell? ⟨w.heap.size, 0, none⟩ = some (.string name)) := Lib.hid (by rw [hw0]; exact ((below_alR _ _).cell (p := ⟨w.heap.size, 0, none⟩) (by simp <;> omega)).trans (((below_alR _ _).cell (p := ⟨w.heap.size, 0, none⟩) (by simp <;> omega)).trans (by have := (boxN (heap_alloc_new w (.cells #[.string name] 9))).2.1 0 _ rfl; exact this)))
  have HC2 : Hid (w0.cell? ⟨w.heap.size + 1, 0, none⟩ = some (.string d)) := Lib.hid (by rw [hw0]; exact ((below_alR _ _).cell (p := ⟨w.heap.size + 1, 0, none⟩) (by simp <;> omega)).trans (by have := (boxN (heap_alloc_new (w.alloc (.cells #[.string name] 9)) (.cells #[.string d] 9))).2.1 0 _ rfl; rw [World.size_alloc] at this; exact this))
  go_enter Try.func15, Try.ntmps15
  go_upto_region 1 with fail
  try simp only [World.size_alloc, Nat.add_assoc, Nat.reduceAdd]
  rw [← hw0]
  clear hw0
  obtain ⟨B, hB⟩ : ∃ x, w.heap.size = x := ⟨_, rfl⟩
  rw [hB] at HB0 hs0 HX0 HC1 HC2
  try rw [hB]
  have HBB := Lib.hid hB
  clear hB
  go_upto_region 2 with fail
  go_wp2_with fail
  refine (chain_m ok tb mt vs K n w0 (HT.out.below (by rw [HBB.out]; exact HB0.out)) hn).mono ?_
  rintro e w1 ⟨p1, c1, rfl, ho1, hb1⟩
  have HB1 := Lib.hid hb1
  have HL := Lib.hid (chain_few HS.out n)
  have HR1 := Lib.hid (own_str ho1)
  obtain ⟨L, hL⟩ : ∃ l, (chainT (K.map skOf) n).1 = l := ⟨_, rfl⟩
  rw [hL] at HR1 HL HY HNO ⊢
  clear hL ho1 hb1
  have HT1 := Lib.hid (HT.out.below (by rw [HBB.out]; exact HB0.out.trans (HB1.out.mono (by omega))))
  obtain ⟨o1, ho1⟩ : ∃ x, firstL K (·.methods) (mthQ name d) L = x := ⟨_, rfl⟩
  rw [ho1] at HY HNO
  have HO1 := Lib.hid ho1
  clear ho1
  go_wp2_with fail
  refine (first_m ok tb mt vs K p1 c1 _ L 42 #[.pointer (some ⟨B, 0, none⟩), .pointer (some ⟨B + 1, 0, none⟩)] (mthQ name d) w1 HT1.out HA.out.1 HA.out.2.1 HR1.out HL.out.2 HL.out.1 eg (fun W x okk pp pc ph np cp nc cc nh ch hz hb hm => by obtain ⟨_, _, _, hv, q1, -⟩ := hm; simp only [List.cons.injEq, and_true, true_and] at hv; obtain ⟨rfl, -⟩ := hv; exact ism_m x pp pc ph np cp nc cc nh ch name d B (B + 1) okk W q1 hz ((hb.cell (p := ⟨B, 0, none⟩) (by have := HB1.out.size; show B < _; omega)).trans ((HB1.out.cell (p := ⟨B, 0, none⟩) (by show B < _; omega)).trans HC1.out)) ((hb.cell (p := ⟨B + 1, 0, none⟩) (by have := HB1.out.size; show B + 1 < _; omega)).trans ((HB1.out.cell (p := ⟨B + 1, 0, none⟩) (by show B + 1 < _; omega)).trans HC2.out)) (by have := HB1.out.size; have := hb.size; omega) (by have := HB1.out.size; have := hb.size; omega))).mono ?_
  rw [HO1.out]
  cases o1 with
  | some y =>
    rintro e w2 ⟨pp, np, cp, pc, nc, cc, ph, nh, ch, rfl, hmp, hb2⟩
    have HOY := Lib.hid (HY.out _ rfl)
    clear HY HNO
    obtain ⟨nm, x⟩ := y
    simp only [nmO, mtO, Option.isSome] at hmp ⊢
    obtain ⟨w3, hw3⟩ : ∃ z, z = w2.alloc (.cells #[.string x.name, .slice pp np cp, .int .i64 x.ret.1, .string x.ret.2, .bool x.st, .bool x.ab, .int .i64 x.locals, .slice pc nc cc, .slice ph nh ch] 44) := ⟨_, rfl⟩
    have hb3 : Below w2.heap.size w2 w3 := by rw [hw3]; exact below_alR _ _
    have hA3 : w3.heap[w2.heap.size]? = some (.cells #[.string x.name, .slice pp np cp, .int .i64 x.ret.1, .string x.ret.2, .bool x.st, .bool x.ab, .int .i64 x.locals, .slice pc nc cc, .slice ph nh ch] 44 (0, 0)) := by rw [hw3]; exact heap_alloc_new _ _
    go_upto_region 4 with fail
    rw [← hw3]
    clear hw3
    have hz1 := HB1.out.size
    have hz2 := hb2.size
    have hz3 := hb3.size
    have hX3 : w3.heap[B + 2]? = _ := (hb3.block _ (by omega)).trans ((hb2.block _ (by omega)).trans ((HB1.out.block _ (by omega)).trans HX0.out))
    have HB23 := Lib.hid (hb2.trans (hb3.mono hz2))
    have HMP := Lib.hid (mP.grow _ (fun b => w1.heap.size ≤ b) w2 w3 _ _ hmp (fun _ h _ => h) (.of_below hb3) hz3)
    clear hb2 hb3 hmp
    obtain ⟨xb, hxb⟩ : ∃ z, B + 2 = z := ⟨_, rfl⟩
    rw [hxb] at hX3
    try rw [hxb]
    have HX3 := Lib.hid hX3
    have HXB := Lib.hid hxb
    clear hxb
    obtain ⟨sb, hsb⟩ : ∃ z, w2.heap.size = z := ⟨_, rfl⟩
    rw [hsb] at hA3 hz2 hz3 ⊢
    have hne : sb ≠ xb := by have := HXB.out; omega
    have hxs : xb < sb := by have := HXB.out; omega
    clear hsb
    obtain ⟨bl, bc, bf⟩ := boxN hX3
    obtain ⟨al, ac, af⟩ := boxN hA3
    have a0 := ac 0 _ rfl; have a1 := ac 1 _ rfl; have a2 := ac 2 _ rfl; have a3 := ac 3 _ rfl; have a4 := ac 4 _ rfl; have a5 := ac 5 _ rfl; have a6 := ac 6 _ rfl; have a7 := ac 7 _ rfl; have a8 := ac 8 _ rfl; simp only [Nat.zero_add] at a0 a1 a2 a3 a4 a5 a6 a7 a8
    have b0 := bc 0 _ rfl; have bz0 := bf 0; have b1 := bc 1 _ rfl; have bz1 := bf 1; have b2 := bc 2 _ rfl; have bz2 := bf 2; have b3 := bc 3 _ rfl; have bz3 := bf 3; have b4 := bc 4 _ rfl; have bz4 := bf 4; have b5 := bc 5 _ rfl; have bz5 := bf 5; have b6 := bc 6 _ rfl; have bz6 := bf 6; have b7 := bc 7 _ rfl; have bz7 := bf 7; have b8 := bc 8 _ rfl; have bz8 := bf 8; simp only [Nat.zero_add] at b0 b1 b2 b3 b4 b5 b6 b7 b8
    clear ac af bc bf hX3 hA3
    go_region_law (fail)
    all_goals
      have hS := set9 (v0 := .string x.name) (v1 := .slice pp np cp) (v2 := .int .i64 x.ret.1) (v3 := .string x.ret.2) (v4 := .bool x.st) (v5 := .bool x.ab) (v6 := .int .i64 x.locals) (v7 := .slice pc nc cc) (v8 := .slice ph nh ch) HX3.out
      obtain ⟨W6, hW6⟩ : ∃ z, z = (((((((((w3.setCell ⟨xb, 0, none⟩ (.string x.name)).setCell ⟨xb, 1, none⟩ (.slice pp np cp)).setCell ⟨xb, 2, none⟩ (.int .i64 x.ret.1)).setCell ⟨xb, 3, none⟩ (.string x.ret.2)).setCell ⟨xb, 4, none⟩ (.bool x.st)).setCell ⟨xb, 5, none⟩ (.bool x.ab)).setCell ⟨xb, 6, none⟩ (.int .i64 x.locals)).setCell ⟨xb, 7, none⟩ (.slice pc nc cc)).setCell ⟨xb, 8, none⟩ (.slice ph nh ch)) := ⟨_, rfl⟩
      rw [← hW6] at hS ⊢
      clear hW6
      obtain ⟨W7, hW7⟩ : ∃ z, z = W6.drew := ⟨_, rfl⟩
      rw [← hW7]
      obtain ⟨r9', rk'⟩ := hS
      have r9 : W7.heap[xb]? = some (.cells #[.string x.name, .slice pp np cp, .int .i64 x.ret.1, .string x.ret.2, .bool x.st, .bool x.ab, .int .i64 x.locals, .slice pc nc cc, .slice ph nh ch] 44 (0, 0)) := by rw [hW7]; exact r9'
      have rk : Kpt [xb] w3 W7 := by rw [hW7]; exact rk'.drew
      clear r9' rk'
      have HRK := Lib.hid rk
      obtain ⟨-, rc, -⟩ := boxN r9
      have r0 := rc 0 _ rfl; have r1 := rc 1 _ rfl; have r2 := rc 2 _ rfl; have r3 := rc 3 _ rfl; have r4 := rc 4 _ rfl; have r5 := rc 5 _ rfl; have r6 := rc 6 _ rfl; have r7 := rc 7 _ rfl; have r8 := rc 8 _ rfl; simp only [Nat.zero_add] at r0 r1 r2 r3 r4 r5 r6 r7 r8
      clear hW7 r9 rk rc a0 b0 bz0 a1 b1 bz1 a2 b2 bz2 a3 b3 bz3 a4 b4 bz4 a5 b5 bz5 a6 b6 bz6 a7 b7 bz7 a8 b8 bz8 al bl
      go_wp2_with fail
      refine bodyPost_ret (v := .tuple #[.string nm, .agg #[.string x.name, .slice pp np cp, .int .i64 x.ret.1, .string x.ret.2, .bool x.st, .bool x.ab, .int .i64 x.locals, .slice pc nc cc, .slice ph nh ch], .bool true]) (by simp [*, results, Try.results15, go_sem]) rfl ?_
      have hbb : Below w.heap.size w W7 := by
        rw [HBB.out]
        exact (HB0.out.trans ((HB1.out.trans (HB23.out.mono (by omega))).mono (by omega))).trans (HRK.out.below (fun z hz => by rw [List.mem_singleton.1 hz]; have := HXB.out; omega) (by omega))
      rw [HOY.out]
      refine ⟨_, _, _, _, _, _, _, _, _, rfl, ?_, hbb⟩
      exact mP.grow _ _ w3 W7 _ _ HMP.out (fun b (hb : w1.heap.size ≤ b) _ => (show w.heap.size ≤ b by have := HBB.out; omega)) (fun b (hb : w1.heap.size ≤ b) hlb => HRK.out.2 b hlb (by have := HXB.out; simp; omega)) HRK.out.size
  | none =>
    rintro e w2 ⟨pp, np, cp, pc, nc, cc, ph, nh, ch, rfl, hmp, hb2⟩
    have HON := Lib.hid (HNO.out rfl)
    clear HY HNO
    obtain ⟨_, _, _, hv, q1, q2, q3⟩ := hmp
    simp only [mtO, List.cons.injEq, and_true, true_and] at hv
    obtain ⟨rfl, rfl, rfl⟩ := hv
    clear q1 q2 q3
    simp only [nmO, mtO, noM, Option.isSome]
    have hb3 : Below w2.heap.size w2 (w2.alloc (.cells #[.string es, .slice pp np cp, .int .i64 0, .string es, .bool false, .bool false, .int .i64 0, .slice pc nc cc, .slice ph nh ch] 44)) := below_alR _ _
    have HB3 := Lib.hid (HB1.out.trans ((hb2.trans (hb3.mono hb2.size)).mono (by have := HB1.out.size; omega)))
    clear hb2 hb3
    go_upto_region 5 with fail
    obtain ⟨w3, hw3⟩ : ∃ z, z = w2.alloc (.cells #[.string es, .slice pp np cp, .int .i64 0, .string es, .bool false, .bool false, .int .i64 0, .slice pc nc cc, .slice ph nh ch] 44) := ⟨_, rfl⟩
    rw [← hw3] at HB3 ⊢
    clear hw3
    have HT3 := Lib.hid (HT.out.below (by rw [HBB.out]; exact HB0.out.trans (HB3.out.mono (by omega))))
    go_wp2_with fail
    refine (ifaces_m ok tb mt vs K n w3 HT3.out hn).mono ?_
    rintro e w4 ⟨p4, c4, rfl, ho4, hb4⟩
    have HB4 := Lib.hid (HB3.out.trans (hb4.mono HB3.out.size))
    have HL4 := Lib.hid (ifaces_few HS.out n)
    have HR4 := Lib.hid (own_str ho4)
    obtain ⟨L2, hL2⟩ : ∃ l, ifacesT (K.map skOf) n = l := ⟨_, rfl⟩
    rw [hL2] at HR4 HL4 HON ⊢
    clear hL2 ho4 hb4
    have HT4 := Lib.hid (HT.out.below (by rw [HBB.out]; exact HB0.out.trans (HB4.out.mono (by omega))))
    go_wp2_with fail
    refine (first_m ok tb mt vs K p4 c4 _ L2 42 #[.pointer (some ⟨B, 0, none⟩), .pointer (some ⟨B + 1, 0, none⟩)] (mthQ name d) w4 HT4.out HA.out.1 HA.out.2.1 HR4.out HL4.out.2 HL4.out.1 eg (fun W x okk pp pc ph np cp nc cc nh ch hz hb hm => by obtain ⟨_, _, _, hv, q1, -⟩ := hm; simp only [List.cons.injEq, and_true, true_and] at hv; obtain ⟨rfl, -⟩ := hv; exact ism_m x pp pc ph np cp nc cc nh ch name d B (B + 1) okk W q1 hz ((hb.cell (p := ⟨B, 0, none⟩) (by have := HB4.out.size; show B < _; omega)).trans ((HB4.out.cell (p := ⟨B, 0, none⟩) (by show B < _; omega)).trans HC1.out)) ((hb.cell (p := ⟨B + 1, 0, none⟩) (by have := HB4.out.size; show B + 1 < _; omega)).trans ((HB4.out.cell (p := ⟨B + 1, 0, none⟩) (by show B + 1 < _; omega)).trans HC2.out)) (by have := HB4.out.size; have := hb.size; omega) (by have := HB4.out.size; have := hb.size; omega))).mono ?_
    rw [← HON.out]
    rintro e w5 ⟨pp, np, cp, pc, nc, cc, ph, nh, ch, rfl, hmp, hb5⟩
    have hX5 : w5.heap[B + 2]? = _ := (hb5.block _ (by have := HB4.out.size; omega)).trans ((HB4.out.block _ (by omega)).trans HX0.out)
    have HB5 := Lib.hid hb5
    have HMP := Lib.hid hmp
    have hz4 := HB4.out.size
    have hz5 := hb5.size
    obtain ⟨nm, hnm⟩ : ∃ x, nmO o = x := ⟨_, rfl⟩
    obtain ⟨x, hx⟩ : ∃ x, mtO o = x := ⟨_, rfl⟩
    obtain ⟨so, hso⟩ : ∃ x, o.isSome = x := ⟨_, rfl⟩
    rw [hnm, hx, hso]
    rw [hx] at HMP
    have HNM := Lib.hid hnm
    have HMX := Lib.hid hx
    have HSO := Lib.hid hso
    clear hnm hx hso hb5 hmp
    obtain ⟨xb, hxb⟩ : ∃ z, B + 2 = z := ⟨_, rfl⟩
    rw [hxb] at hX5
    try rw [hxb]
    have HX5 := Lib.hid hX5
    have HXB := Lib.hid hxb
    clear hxb
    obtain ⟨bl, bc, bf⟩ := boxN hX5
    have b0 := bc 0 _ rfl; have bz0 := bf 0; have b1 := bc 1 _ rfl; have bz1 := bf 1; have b2 := bc 2 _ rfl; have bz2 := bf 2; have b3 := bc 3 _ rfl; have bz3 := bf 3; have b4 := bc 4 _ rfl; have bz4 := bf 4; have b5 := bc 5 _ rfl; have bz5 := bf 5; have b6 := bc 6 _ rfl; have bz6 := bf 6; have b7 := bc 7 _ rfl; have bz7 := bf 7; have b8 := bc 8 _ rfl; have bz8 := bf 8; simp only [Nat.zero_add] at b0 b1 b2 b3 b4 b5 b6 b7 b8
    clear bc bf hX5
    have hS := set9 (v0 := .string x.name) (v1 := .slice pp np cp) (v2 := .int .i64 x.ret.1) (v3 := .string x.ret.2) (v4 := .bool x.st) (v5 := .bool x.ab) (v6 := .int .i64 x.locals) (v7 := .slice pc nc cc) (v8 := .slice ph nh ch) HX5.out
    obtain ⟨W7, hW7⟩ : ∃ z, z = (((((((((w5.setCell ⟨xb, 0, none⟩ (.string x.name)).setCell ⟨xb, 1, none⟩ (.slice pp np cp)).setCell ⟨xb, 2, none⟩ (.int .i64 x.ret.1)).setCell ⟨xb, 3, none⟩ (.string x.ret.2)).setCell ⟨xb, 4, none⟩ (.bool x.st)).setCell ⟨xb, 5, none⟩ (.bool x.ab)).setCell ⟨xb, 6, none⟩ (.int .i64 x.locals)).setCell ⟨xb, 7, none⟩ (.slice pc nc cc)).setCell ⟨xb, 8, none⟩ (.slice ph nh ch)) := ⟨_, rfl⟩
    rw [← hW7] at hS
    obtain ⟨r9, rk⟩ := hS
    have HRK := Lib.hid rk
    obtain ⟨-, rc, -⟩ := boxN r9
    have r0 := rc 0 _ rfl; have r1 := rc 1 _ rfl; have r2 := rc 2 _ rfl; have r3 := rc 3 _ rfl; have r4 := rc 4 _ rfl; have r5 := rc 5 _ rfl; have r6 := rc 6 _ rfl; have r7 := rc 7 _ rfl; have r8 := rc 8 _ rfl; simp only [Nat.zero_add] at r0 r1 r2 r3 r4 r5 r6 r7 r8
    have HW7 := Lib.hid hW7
    clear hW7 r9 rk rc
    go_wp2_with fail
    rw [← HW7.out]
    clear b0 bz0 b1 bz1 b2 bz2 b3 bz3 b4 bz4 b5 bz5 b6 bz6 b7 bz7 b8 bz8 bl
    refine bodyPost_ret (v := .tuple #[.string nm, .agg #[.string x.name, .slice pp np cp, .int .i64 x.ret.1, .string x.ret.2, .bool x.st, .bool x.ab, .int .i64 x.locals, .slice pc nc cc, .slice ph nh ch], .bool so]) (by simp [*, results, Try.results15, go_sem]) rfl ?_
    have hbb : Below w.heap.size w W7 := by
      rw [HBB.out]
      exact (HB0.out.trans ((HB4.out.trans (HB5.out.mono (by omega))).mono (by omega))).trans (HRK.out.below (fun z hz => by rw [List.mem_singleton.1 hz]; have := HXB.out; omega) (by omega))
    unfold AnsM
    rw [HNM.out, HMX.out, HSO.out]
    refine ⟨_, _, _, _, _, _, _, _, _, rfl, ?_, hbb⟩
    exact mP.grow _ _ w5 W7 _ _ HMP.out (fun b (hb : w4.heap.size ≤ b) _ => (show w.heap.size ≤ b by have := HBB.out; omega)) (fun b (hb : w4.heap.size ≤ b) hlb => HRK.out.2 b hlb (by have := HXB.out; simp; omega)) HRK.out.size
end Go.Proofs.Ytjegocecgncpkaa.R
namespace Go.Proofs.Ytjegocecgncpkaa.R
open Go.RowKit Go.Proofs.Ytjegocecgncpkaa.D Go.Proofs.Ytjegocecgncpkaa.O Go.Proofs.Ytjegocecgncpkaa.A
theorem keepL_sub (l : List Cls) : (keepL l).Sublist l := S.rev_ind (P := fun l => (keepL l).Sublist l) (List.Sublist.refl _) (fun l c h => by
  rw [keepL_snoc]
  unfold keep1
  split
  · exact h.trans (List.sublist_append_left _ _)
  · exact h.append (List.Sublist.refl _)) l
theorem keep_id {l : List Cls} (h : (keepL l).map skOf = l.map skOf) : keepL l = l := (keepL_sub l).eq_of_length (by have := congrArg List.length h; rwa [List.length_map, List.length_map] at this)
theorem seat_id (k0 k1 k2 k3 : Nat) : keepL (archS k0 k1 k2 k3 [] []) = archS k0 k1 k2 k3 [] [] := keep_id (by rw [seat_kept, seat_sk])
def FewK (c : Cls) : Prop := c.fields.length ≤ 900 ∧ ∀ m ∈ c.methods, SzM m
theorem askK_of {K : List Cls} (h1 : ∀ c ∈ K, FewC c) (h2 : ∀ c ∈ K, FewK c) : AskK K := by
  have key : ∀ n, FewK (clsK K n) := fun n => by
    unfold clsK findC bltC
    cases bltS n with
    | some s => exact ⟨Nat.zero_le _, fun m hm => by cases hm⟩
    | none =>
      cases hc : K.find? (fun c => decide (c.name = n)) with
      | none => exact ⟨Nat.zero_le _, fun m hm => by cases hm⟩
      | some c => exact h2 c (List.mem_of_find?_eq_some hc)
  exact ⟨h1, fun n => (key n).2, fun n => (key n).1⟩
theorem sz_mth {n : ByteArray} {ps : List Ty} {r : Ty} {st : Bool} {lo : Int} {code : List Ins} (h : (decide (ps.length ≤ 1000) && (ps.all fun u => decide (u.2.size ≤ 1000)) && decide (r.2.size ≤ 1000)) = true) : SzM (mthS n ps r st lo code) := by
  simp only [Bool.and_eq_true, decide_eq_true_eq, List.all_eq_true] at h
  exact ⟨h.1.1, fun u hu => Nat.le_trans (h.1.2 u hu) (by decide), Nat.le_trans h.2 (by decide)⟩
theorem sz_run (c : ByteArray) (n : Nat) : SzM (runS c n) := sz_mth rfl
theorem sz_abs : SzM absS := ⟨Nat.zero_le _, fun u hu => (by cases hu), (by decide)⟩
theorem sz_clinit (s : ByteArray) : SzM (clinitS s) := sz_mth rfl
theorem seat_fewK (k0 k1 k2 k3 : Nat) : ∀ c ∈ archS k0 k1 k2 k3 [] [], FewK c := by
  unfold archS
  refine rev_all ?_
  refine app_all (app_all ?_ ?_) ?_
  · refine one_all ⟨by simp [mainS], app_all (one_all ⟨Nat.zero_le _, fun u hu => (by cases hu), (by decide)⟩ (one_all ⟨Nat.zero_le _, fun u hu => (by cases hu), (by decide)⟩ nil_all)) (when_all (one_all (sz_clinit _) nil_all))⟩ ?_
    refine one_all ⟨by simp, one_all sz_abs nil_all⟩ ?_
    exact one_all ⟨by simp, when_all (one_all sz_abs nil_all)⟩ nil_all
  · unfold familyS
    refine one_all ⟨by simp, app_all (app_all (one_all (sz_mth rfl) nil_all) (when_all (one_all sz_abs nil_all))) (when_all (one_all (sz_clinit _) nil_all))⟩ ?_
    refine one_all ⟨by simp, app_all (one_all (sz_run _ _) nil_all) (when_all (one_all (sz_clinit _) nil_all))⟩ ?_
    refine one_all ⟨by simp, app_all (when_all (one_all (sz_run _ _) nil_all)) (when_all (one_all (sz_mth rfl) nil_all))⟩ ?_
    refine one_all ⟨by simp, nil_all⟩ ?_
    refine one_all ⟨by simp, app_all (one_all (sz_run _ _) (one_all (sz_mth rfl) nil_all)) (when_all (one_all (sz_mth rfl) nil_all))⟩ ?_
    exact one_all ⟨by simp, app_all (one_all (sz_run _ _) nil_all) (when_all (one_all (sz_clinit _) nil_all))⟩ nil_all
  · refine one_all ⟨by simp, nil_all⟩ (one_all ⟨by simp, nil_all⟩ (one_all ⟨by simp, one_all (sz_mth rfl) nil_all⟩ (one_all ?_ nil_all)))
    refine ⟨by simp [utilS], app_all ?_ (by split; exact one_all (sz_clinit _) nil_all; exact nil_all)⟩
    exact one_all (sz_mth rfl) (one_all (sz_mth rfl) (one_all (sz_mth rfl) (one_all (sz_mth rfl) (one_all (sz_mth rfl) (one_all (sz_mth rfl) (one_all (sz_mth rfl) (one_all (sz_mth rfl) (one_all (sz_mth rfl) nil_all))))))))
theorem seat_ask (k0 k1 k2 k3 : Nat) : AskK (archS k0 k1 k2 k3 [] []) := askK_of (seat_few k0 k1 k2 k3) (seat_fewK k0 k1 k2 k3)
theorem g_field : fieldK (archS 2 0 0 0 [] []) ⟨#[66]⟩ ⟨#[120]⟩ false = some (⟨#[66, 97, 115, 101]⟩, (⟨#[120]⟩, (1, es), false)) := by kernel_rfl
theorem g_method : methodK (archS 2 0 0 0 [] []) ⟨#[66]⟩ ⟨#[114, 117, 110]⟩ ⟨#[40, 41, 73]⟩ = some (⟨#[65]⟩, runS ⟨#[65]⟩ 0) := by kernel_rfl
theorem g_virtual : virtualK (archS 2 0 0 0 [] []) ⟨#[66, 97, 115, 101]⟩ ⟨#[114, 117, 110]⟩ ⟨#[40, 41, 73]⟩ = none := by kernel_rfl
theorem g_inits : initsK (archS 2 0 0 0 [] []) ⟨#[66]⟩ = [⟨#[66, 97, 115, 101]⟩] := by kernel_rfl
theorem g_slots : (slotsK (archS 2 0 0 0 [] []) ⟨#[67]⟩).length = 5 := by kernel_rfl
theorem g_code : (runS ⟨#[65]⟩ 0).code.length = 5 := by kernel_rfl
def nmC : List ByteArray := [⟨#[65]⟩, ⟨#[66]⟩, ⟨#[66, 97, 115, 101]⟩, ⟨#[77, 105, 100]⟩, ⟨#[67]⟩, ⟨#[68]⟩]
def xI : Fld := (⟨#[120]⟩, (1, es), false)
def xS : Fld := (⟨#[120]⟩, (2, es), false)
def fBase : List Fld := [xI, (⟨#[110, 101, 120, 116]⟩, (4, ⟨#[66, 97, 115, 101]⟩), false), (⟨#[119]⟩, (1, es), false), (⟨#[117, 110, 117, 115, 101, 100]⟩, (2, es), false)]
def slT (i : Nat) : List Fld := if i = 3 ∨ i = 4 then fBase ++ [(⟨#[109]⟩, (1, es), false)] else if i = 5 then fBase ++ [xS] else fBase
theorem near_slots (k0 k1 k2 k3 : Nat) : nmC.map (slotsK (archS k0 k1 k2 k3 [] [])) = (List.range 6).map slT := by
  unfold archS familyS
  generalize bitS k2 2 = b2
  cases b2 <;> kernel_rfl
theorem near_field (k0 k1 k2 k3 : Nat) : (nmC.map fun c => fieldK (archS k0 k1 k2 k3 [] []) c ⟨#[120]⟩ false) = (List.range 6).map fun i => if i = 5 then some (⟨#[68]⟩, xS) else some (⟨#[66, 97, 115, 101]⟩, xI) := by
  unfold archS familyS
  generalize bitS k2 2 = b2
  cases b2 <;> kernel_rfl
theorem near_chain (k0 k1 k2 k3 : Nat) : (nmC.all fun c => decide (2 ≤ (chainT ((archS k0 k1 k2 k3 [] []).map skOf) c).1.length)) = true := by
  rw [seat_sk]
  generalize bitS k0 3 = b3
  generalize bitS k0 6 = b6
  generalize bitS k2 2 = b2
  cases b3 <;> cases b6 <;> cases b2 <;> decide +kernel
def sameO (a b : Option (ByteArray × Mth)) : Bool := match a, b with
  | some x, some y => decide (x.1 = y.1) && !x.2.st
  | _, _ => false
theorem near_method (k0 k1 k2 k3 : Nat) : (nmC.all fun c => sameO (virtualK (archS k0 k1 k2 k3 [] []) c ⟨#[110, 97, 109, 101]⟩ ⟨#[40, 41, 83]⟩) (methodK (archS k0 k1 k2 k3 [] []) c ⟨#[110, 97, 109, 101]⟩ ⟨#[40, 41, 83]⟩)) = true := by
  unfold archS familyS
  generalize bitS k2 2 = b2
  generalize bitS k0 0 = b0
  generalize bitS k0 1 = b1
  generalize bitS k0 2 = b22
  generalize bitS k0 4 = b4
  generalize bitS k0 5 = b5
  generalize bitS k0 7 = b7
  generalize bitS k1 0 = b10
  cases b2 <;> cases b0 <;> cases b1 <;> cases b22 <;> cases b4 <;> cases b5 <;> cases b7 <;> cases b10 <;> kernel_rfl
end Go.Proofs.Ytjegocecgncpkaa.R
namespace Go.Proofs.Ytjegocecgncpkaa.R
open Go.RowKit Go.Proofs.Ytjegocecgncpkaa.D Go.Proofs.Ytjegocecgncpkaa.O Go.Proofs.Ytjegocecgncpkaa.A
theorem kpt_setCells (g : Nat) : ∀ (vs : List Value) (o : Nat) (w : World), Kpt [g] w (w.setCells g o vs)
  | [], _, w => Kpt.refl _ _
  | v :: r, o, w => (Kpt.set _ w g o v (by simp)).trans (kpt_setCells g r (o + 1) _) (fun _ h => .inl h)
def zeroF : Value := .agg #[.string ⟨#[]⟩, .int .i64 0, .string ⟨#[]⟩, .bool false]
def zerosF (m : Nat) : List Value := (Builtin.zeroCells zeroF.cells m).toList
theorem zerosF_len (m : Nat) : (zerosF m).length = m * 4 := by
  unfold zerosF
  rw [Array.length_toList, size_zeroCells]
  rfl
theorem zerosF_one (m : Nat) : ∀ v ∈ zerosF m, v.oneCell' = true := by
  intro v hv
  unfold zerosF Builtin.zeroCells at hv
  rw [Array.toList_map, List.mem_map] at hv
  obtain ⟨i, -, rfl⟩ := hv
  have h : ∀ j, j < 4 → (zeroF.cells[j]!).oneCell' = true := by decide
  exact h _ (Nat.mod_lt _ (by decide))
theorem run_clearF (w : World) (ty : TypeId) (b o m c : Nat) (hm : 0 < m) (hc : ∀ j, j < m * 4 → (w.cell? ⟨b, o + j, none⟩).isSome = true) (hf : ∀ j, j < m * 4 → w.frozen? ⟨b, o + j, none⟩ = false) :
    (Builtin.clear_ #[31] ty #[.slice (some ⟨b, o, none⟩) m c]).run Try.prog w = .ok (.tuple #[]) (w.setCells b o (zerosF m)) := by
  have hst := run_storeCells_cells (P := Try.prog) b o (zerosF m) 0 w (by rw [zerosF_len]; simpa using hc) (by rw [zerosF_len]; simpa using hf) (zerosF_one m)
  simp only [Nat.add_zero] at hst
  obtain ⟨k, rfl⟩ : ∃ k, m = k + 1 := ⟨m - 1, by omega⟩
  have hz : (zeroValue 37).run Try.prog w = .ok zeroF w := Try.zeroValue37 w
  unfold zerosF at hst
  simp [Builtin.clear_, run_underlying Try.underlying31, hz, hst, zerosF]
theorem own_put4 {T : TypeId} {w : World} {B : Nat} {v : Value} {xs : List Fld} (h : OwnX 4 T (sP fldC) w B v xs) {i : Nat} {x : Fld} (hi : xs[i]? = some x) (y : Fld) :
    ∃ g cap, v = .slice (some ⟨g, 0, none⟩) xs.length cap ∧ xs.length ≤ cap ∧ B ≤ g ∧ g < w.heap.size ∧ (∀ k, w.frozen? ⟨g, k, none⟩ = false) ∧ (∀ k u', (fldC x)[k]? = some u' → w.cell? ⟨g, i * 4 + k, none⟩ = some u') ∧
      OwnX 4 T (sP fldC) ((((w.setCell ⟨g, i * 4, none⟩ (.string y.1)).setCell ⟨g, i * 4 + 1, none⟩ (.int .i64 y.2.1.1)).setCell ⟨g, i * 4 + 2, none⟩ (.string y.2.1.2)).setCell ⟨g, i * 4 + 3, none⟩ (.bool y.2.2)) B v (xs.set i y) := by
  obtain ⟨x0, ⟨x1, x2⟩, x3⟩ := x
  obtain ⟨y0, ⟨y1, y2⟩, y3⟩ := y
  have hil := (List.getElem?_eq_some_iff.1 hi).1
  obtain ⟨g, cap, e, hle, hB, hg, hf, hc, h1⟩ := h.put1 (j := 0) (y := (y0, (x1, x2), x3)) (u := .string y0) hi (by decide) rfl
  obtain ⟨g2, cap2, e2, -, -, -, -, -, h2⟩ := h1.put1 (i := i) (j := 1) (y := (y0, (y1, x2), x3)) (u := .int .i64 y1) (List.getElem?_set_self hil) (by decide) rfl
  rw [e] at e2
  simp only [Value.slice.injEq, Option.some.injEq, Addr.mk.injEq, and_true] at e2
  obtain ⟨rfl, -, -⟩ := e2
  rw [List.set_set] at h2
  obtain ⟨g3, cap3, e3, -, -, -, -, -, h3⟩ := h2.put1 (i := i) (j := 2) (y := (y0, (y1, y2), x3)) (u := .string y2) (List.getElem?_set_self hil) (by decide) rfl
  rw [e] at e3
  simp only [Value.slice.injEq, Option.some.injEq, Addr.mk.injEq, and_true] at e3
  obtain ⟨rfl, -, -⟩ := e3
  rw [List.set_set] at h3
  obtain ⟨g4, cap4, e4, -, -, -, -, -, h4⟩ := h3.put1 (i := i) (j := 3) (y := (y0, (y1, y2), y3)) (u := .bool y3) (List.getElem?_set_self hil) (by decide) rfl
  rw [e] at e4
  simp only [Value.slice.injEq, Option.some.injEq, Addr.mk.injEq, and_true] at e4
  obtain ⟨rfl, -, -⟩ := e4
  rw [List.set_set] at h4
  exact ⟨g, cap, e, hle, hB, hg, hf, hc, h4⟩
theorem idx_pre {α : Type} (p : α → Bool) (l : List α) : (l.filter (fun x => !p x) = l ∧ idxP p l = -1) ∨ ∃ (k : Nat) (x : α), l[k]? = some x ∧ p x = true ∧ idxP p l = (k : Int) ∧ (l.take k).filter (fun x => !p x) = l.take k := by
  cases h : l.findIdx? p with
  | none =>
    refine .inl ⟨List.filter_eq_self.2 (fun x hx => ?_), by unfold idxP; rw [h]⟩
    have := (List.findIdx?_eq_none_iff.1 h) x hx
    simp [this]
  | some k =>
    obtain ⟨hk, hp, ha⟩ := List.findIdx?_eq_some_iff_getElem.1 h
    refine .inr ⟨k, l[k], List.getElem?_eq_getElem hk, hp, by unfold idxP; rw [h], List.filter_eq_self.2 (fun x hx => ?_)⟩
    obtain ⟨j, hj, rfl⟩ := List.mem_iff_getElem.1 hx
    rw [List.length_take] at hj
    rw [List.getElem_take]
    have := ha j (by omega)
    simpa using this
def DelI (xs cur : List Fld) (i j : Nat) : Prop := cur.length = xs.length ∧ i < j ∧ cur.take i = (xs.take j).filter instF ∧ ∀ m, j ≤ m → cur[m]? = xs[m]?
theorem DelI.start {xs : List Fld} {k : Nat} {x : Fld} (hx : xs[k]? = some x) (hp : x.2.2 = true) (ht : (xs.take k).filter instF = xs.take k) : DelI xs xs k (k + 1) := by
  obtain ⟨hk, rfl⟩ := List.getElem?_eq_some_iff.1 hx
  refine ⟨rfl, by omega, ?_, fun _ _ => rfl⟩
  rw [List.take_succ_eq_append_getElem hk, List.filter_append, ht]
  simp [instF, hp]
theorem DelI.keep {xs cur : List Fld} {i j : Nat} {x : Fld} (h : DelI xs cur i j) (hx : xs[j]? = some x) (hp : x.2.2 = false) : DelI xs (cur.set i x) (i + 1) (j + 1) := by
  obtain ⟨h1, h2, h3, h4⟩ := h
  obtain ⟨hj, rfl⟩ := List.getElem?_eq_some_iff.1 hx
  refine ⟨by simp [h1], by omega, ?_, fun m hm => ?_⟩
  · rw [List.take_succ_eq_append_getElem hj, List.filter_append, ← h3, List.take_succ_eq_append_getElem (by simp; omega), List.take_set_of_le (Nat.le_refl _)]
    simp [instF, hp]
  · rw [List.getElem?_set_ne (by omega)]
    exact h4 m (by omega)
theorem DelI.skip {xs cur : List Fld} {i j : Nat} {x : Fld} (h : DelI xs cur i j) (hx : xs[j]? = some x) (hp : x.2.2 = true) : DelI xs cur i (j + 1) := by
  obtain ⟨h1, h2, h3, h4⟩ := h
  obtain ⟨hj, rfl⟩ := List.getElem?_eq_some_iff.1 hx
  refine ⟨h1, by omega, ?_, fun m hm => h4 m (by omega)⟩
  rw [List.take_succ_eq_append_getElem hj, List.filter_append, ← h3]
  simp [instF, hp]
theorem DelI.done {xs cur : List Fld} {i : Nat} (h : DelI xs cur i xs.length) : cur.take i = xs.filter instF ∧ (xs.filter instF).length = i := by
  obtain ⟨h1, h2, h3, h4⟩ := h
  rw [List.take_length] at h3
  refine ⟨h3, ?_⟩
  rw [← h3, List.length_take]
  omega
theorem rd_front {T : TypeId} {w w' : World} {B g n c i : Nat} {cur : List Fld} (h : OwnX 4 T (sP fldC) w B (.slice (some ⟨g, 0, none⟩) n c) cur) (hi : i ≤ cur.length) (hk : ∀ o, o < i * 4 → w'.cell? ⟨g, o, none⟩ = w.cell? ⟨g, o, none⟩) (hs : w.heap.size ≤ w'.heap.size) :
    RdX 4 (sP fldC) (fun b => B ≤ b) w' (.slice (some ⟨g, 0, none⟩) i c) (cur.take i) := by
  have hl : (cur.take i).length = i := by rw [List.length_take]; omega
  obtain ⟨p, cap, e, hle, hn, hc⟩ := h.rd (sP.grow _)
  simp only [Value.slice.injEq] at e
  obtain ⟨rfl, rfl, rfl⟩ := e
  refine ⟨_, _, by rw [hl], by omega, (fun e => by cases e), ?_⟩
  rcases hc with rfl | ⟨b, off, e, hb, hlt, hcc⟩
  · exact .inl (by simp)
  · simp only [Option.some.injEq, Addr.mk.injEq, and_true] at e
    obtain ⟨rfl, rfl⟩ := e
    refine .inr ⟨g, 0, rfl, hb, by omega, fun m x hx => ?_⟩
    have hm : m < i := by have := (List.getElem?_eq_some_iff.1 hx).1; omega
    rw [List.getElem?_take_of_lt hm] at hx
    obtain ⟨vs, rfl, hv⟩ := hcc m x hx
    refine ⟨_, rfl, fun j u hu => ?_⟩
    rw [hk _ ?_]
    · exact hv j u hu
    · have hj : j < 4 := (List.getElem?_eq_some_iff.1 hu).1
      omega
set_option maxHeartbeats 4000000 in
set_option maxRecDepth 100000 in
theorem del_m (B : Nat) (p : Option Addr) (c : Nat) (xs : List Fld) (w : World) (h : OwnX 4 37 (sP fldC) w B (.slice p xs.length c) xs) (hl : xs.length ≤ 1000000) (hB : B ≤ w.heap.size) :
    Calls Try.prog 31 #[.slice p xs.length c, .func (.func 32) #[] #[]] w fun e w' => ∃ p', e = .returned (.slice p' (xs.filter instF).length c) ∧ RdX 4 (sP fldC) (fun b => B ≤ b) w' (.slice p' (xs.filter instF).length c) (xs.filter instF) ∧ Below B w w' := by
  have eg : ∀ args w, (callFunc 32 args).run Try.prog w = .ok (.enter 32 args) w := enters_of Try.func32 (by kernel_rfl) rfl
  have HO := Lib.hid h
  have hidx := idx_fld p c _ xs 32 #[] (fun x => x.2.2) w (h.rd (sP.grow _)) hl eg (fun W x _ _ => iss_m x W)
  clear h
  rcases idx_pre (fun x : Fld => x.2.2) xs with ⟨hf, e⟩ | ⟨k, x, hk, hp, e, ht⟩
  · have HF : Hid (xs.filter instF = xs) := Lib.hid hf
    rw [e] at hidx
    clear hf e
    go_enter Try.func31, Try.ntmps31
    go_wp2_with (go_at_call 62; refine hidx.mono ?_; rintro e w1 ⟨rfl, hb1⟩)
    go_ret
    rw [HF.out]
    exact ⟨_, rfl, (HO.out.rd (sP.grow _)).any (sP.grow _) hb1, hb1.mono hB⟩
  · have hkl := (List.getElem?_eq_some_iff.1 hk).1
    have HI0 := Lib.hid (DelI.start hk hp ht)
    rw [e] at hidx
    clear e ht hk hp
    obtain ⟨g, cap, e, hcap, hBg, hlg⟩ := HO.out.row (by omega)
    simp only [Value.slice.injEq] at e
    obtain ⟨rfl, -, rfl⟩ := e
    have hne1 : ((k : Int) == -1) = false := beq_eq_false_iff_ne.2 (by omega)
    go_enter Try.func31, Try.ntmps31
    go_wp2_with (go_at_call 62; refine hidx.mono ?_; rintro e w1 ⟨rfl, hb1⟩)
    have HO1 := Lib.hid (HO.out.kptS (.of_below hb1 : Kpt [] w w1) (fun _ _ => by simp))
    have HB1 := Lib.hid (hb1.mono hB)
    clear HO hidx hb1
    go_loopg [5, 6, 7] xs.length (fun gg s5 s6 s7 wr => ∃ (i j : Nat) (cur : List Fld), s5 = .int .i64 (i : Int) ∧ s6 = .int .i64 (j : Int) ∧ j ≤ xs.length ∧ xs.length - j ≤ gg ∧ Hid (DelI xs cur i j) ∧ Hid (OwnX 4 37 (sP fldC) wr B (.slice (some ⟨g, 0, none⟩) xs.length c) cur) ∧ Hid (Below B w wr))
    case atStart => exact ⟨k, k + 1, xs, rfl, by go_num, by omega, by omega, HI0, HO1, HB1⟩
    case round =>
      clear HI0 HO1 HB1
      obtain ⟨i, j, cur, rfl, rfl, hj, hg, HI, HC, HB⟩ := hrel
      have hij := HI.out.2.1
      have hcl := HI.out.1
      by_cases hlt : j < xs.length
      · obtain ⟨x, hx⟩ : ∃ x, xs[j]? = some x := ⟨_, List.getElem?_eq_getElem hlt⟩
        have hcx : cur[j]? = some x := by rw [HI.out.2.2.2 j (Nat.le_refl _)]; exact hx
        obtain ⟨g1, cap1, e1, -, -, hlg1, hfz, hcc, -⟩ := own_put4 HC.out hcx x
        simp only [Value.slice.injEq, Option.some.injEq, Addr.mk.injEq, and_true] at e1
        obtain ⟨rfl, -, rfl⟩ := e1
        obtain ⟨x0, ⟨x1, x2⟩, x3⟩ := x
        have y0 := hcc 0 _ rfl
        have y1 := hcc 1 _ rfl
        have y2 := hcc 2 _ rfl
        have y3 := hcc 3 _ rfl
        simp only [Nat.add_zero] at y0
        have hlt' : (j : Int) < (xs.length : Int) := by omega
        have j0 : (0 : Int) ≤ (j : Int) := by omega
        have i0 : (0 : Int) ≤ (i : Int) := by omega
        have i1 : (i : Int) < (xs.length : Int) := by omega
        have HX := Lib.hid hx
        obtain ⟨o, ho⟩ : ∃ o, cur[i]? = some o := ⟨_, List.getElem?_eq_getElem (by omega)⟩
        have HO := Lib.hid ho
        clear hcc hfz hx hcx ho
        obtain ⟨w2, hw2⟩ : ∃ z, z = wr.alloc (.cells #[.string x0, .int .i64 x1, .string x2, .bool x3] 37) := ⟨_, rfl⟩
        have hb2 : Below wr.heap.size wr w2 := by rw [hw2]; exact below_alR _ _
        have hA2 : w2.heap[wr.heap.size]? = some (.cells #[.string x0, .int .i64 x1, .string x2, .bool x3] 37 (0, 0)) := by rw [hw2]; exact heap_alloc_new _ _
        have HC2 := Lib.hid (HC.out.kptS (.of_below hb2 : Kpt [] wr w2) (fun _ _ => by simp))
        have HB2 := Lib.hid (HB.out.trans (hb2.mono (Nat.le_trans hB HB.out.size)))
        have hz2 := hb2.size
        go_upto_region 8 with fail
        rw [← hw2]
        clear hw2 y0 y1 y2 y3 hb2
        obtain ⟨vb, hvb⟩ : ∃ z, wr.heap.size = z := ⟨_, rfl⟩
        rw [hvb] at hA2 hz2 ⊢
        have hgv : g < vb := by omega
        clear hvb
        obtain ⟨al, ac, -⟩ := boxN hA2
        have a0 := ac 0 _ rfl
        have a1 := ac 1 _ rfl
        have a2 := ac 2 _ rfl
        have a3 := ac 3 _ rfl
        simp only [Nat.zero_add] at a0 a1 a2 a3
        have HA2 := Lib.hid hA2
        clear ac hA2
        cases x3 with
        | true =>
          go_wp2_with (go_at_call 32; refine (iss_m (x0, (x1, x2), true) w2).mono ?_; rintro e w3 ⟨rfl, hb3⟩)
          have HI3 := Lib.hid (HI.out.skip HX.out rfl)
          have HC3 := Lib.hid (HC2.out.kptS (.of_below hb3 : Kpt [] w2 w3) (fun _ _ => by simp))
          have HB3 := Lib.hid (HB2.out.trans (hb3.mono (Nat.le_trans hB HB2.out.size)))
          go_roundg (xs.length - (j + 1))
          case measure => omega
          case rel => exact ⟨i, j + 1, cur, rfl, by go_num, by omega, by omega, HI3, HC3, HB3⟩
        | false =>
          go_upto_region 9 with (go_at_call 32; refine (iss_m (x0, (x1, x2), false) w2).mono ?_; rintro e w3 ⟨rfl, hb3⟩)
          have HI3 := Lib.hid (HI.out.keep HX.out rfl)
          have hc3 := HC2.out.kptS (.of_below hb3 : Kpt [] w2 w3) (fun _ _ => by simp)
          have HB3 := Lib.hid (HB2.out.trans (hb3.mono (Nat.le_trans hB HB2.out.size)))
          have hA3 := (hb3.block vb al).trans HA2.out
          obtain ⟨g1, cap1, e1, -, -, hlg3, hfz, hcc, ho3⟩ := own_put4 hc3 HO.out (x0, (x1, x2), false)
          simp only [Value.slice.injEq, Option.some.injEq, Addr.mk.injEq, and_true] at e1
          obtain ⟨rfl, -, rfl⟩ := e1
          clear a0 a1 a2 a3 al hb3 hc3
          obtain ⟨al, ac, -⟩ := boxN hA3
          have a0 := ac 0 _ rfl
          have a1 := ac 1 _ rfl
          have a2 := ac 2 _ rfl
          have a3 := ac 3 _ rfl
          simp only [Nat.zero_add] at a0 a1 a2 a3
          have b0 := hcc 0 _ rfl
          have b1 := hcc 1 _ rfl
          have b2 := hcc 2 _ rfl
          have b3 := hcc 3 _ rfl
          simp only [Nat.add_zero] at b0
          have z0 := hfz (i * 4)
          have z1 := hfz (i * 4 + 1)
          have z2 := hfz (i * 4 + 2)
          have z3 := hfz (i * 4 + 3)
          have hgne : g ≠ vb := by omega
          clear ac hcc hfz hA3
          obtain ⟨w4, hw4⟩ : ∃ z, z = (((w3.setCell ⟨g, i * 4, none⟩ (.string x0)).setCell ⟨g, i * 4 + 1, none⟩ (.int .i64 x1)).setCell ⟨g, i * 4 + 2, none⟩ (.string x2)).setCell ⟨g, i * 4 + 3, none⟩ (.bool false) := ⟨_, rfl⟩
          have hk4 : Kpt [g] w3 w4 := by
            rw [hw4]
            exact (((Kpt.set [g] _ _ _ _ (by simp)).trans (Kpt.set [g] _ _ _ _ (by simp)) (fun _ h => .inl h)).trans (Kpt.set [g] _ _ _ _ (by simp)) (fun _ h => .inl h)).trans (Kpt.set [g] _ _ _ _ (by simp)) (fun _ h => .inl h)
          have ho4 : OwnX 4 37 (sP fldC) w4 B (.slice (some ⟨g, 0, none⟩) xs.length c) (cur.set i (x0, (x1, x2), false)) := by rw [hw4]; exact ho3
          have HO4 := Lib.hid ho4
          have HB4 := Lib.hid (HB3.out.trans (hk4.below (B := B) (fun z hz => by rw [List.mem_singleton.1 hz]; exact hBg) (Nat.le_trans hB HB3.out.size)))
          have HW4 := Lib.hid hw4
          clear ho3 ho4 hk4 hw4
          go_upto_region 10 with fail
          rw [← HW4.out]
          clear a0 a1 a2 a3 b0 b1 b2 b3 z0 z1 z2 z3 al
          go_wp2_with fail
          go_roundg (xs.length - (j + 1))
          case measure => omega
          case rel => exact ⟨i + 1, j + 1, _, by go_num, by go_num, by omega, by omega, HI3, HO4, HB4⟩
      · have hlt' : ¬ (j : Int) < (xs.length : Int) := by omega
        obtain rfl : j = xs.length := by omega
        have hd := HI.out.done
        have i0 : (0 : Int) ≤ (i : Int) := by omega
        have i1 : (i : Int) < (xs.length : Int) := by omega
        have hcells : ∀ o, o < xs.length * 4 → (wr.cell? ⟨g, o, none⟩).isSome = true := fun o ho => by
          obtain ⟨y, hy⟩ : ∃ y, cur[o / 4]? = some y := ⟨_, List.getElem?_eq_getElem (by omega)⟩
          obtain ⟨g1, cap1, e1, -, -, -, -, hcc, -⟩ := own_put4 HC.out hy y
          simp only [Value.slice.injEq, Option.some.injEq, Addr.mk.injEq, and_true] at e1
          obtain ⟨rfl, -, -⟩ := e1
          obtain ⟨u, hu⟩ : ∃ u, (fldC y)[o % 4]? = some u := ⟨_, List.getElem?_eq_getElem (show o % 4 < 4 from Nat.mod_lt _ (by decide))⟩
          have := hcc (o % 4) u hu
          rw [show o / 4 * 4 + o % 4 = o by omega] at this
          rw [this]; rfl
        have hfz : ∀ o, wr.frozen? ⟨g, o, none⟩ = false := fun o => by
          obtain ⟨y, hy⟩ : ∃ y, cur[i]? = some y := ⟨_, List.getElem?_eq_getElem (by omega)⟩
          obtain ⟨g1, cap1, e1, -, -, -, hf, -, -⟩ := own_put4 HC.out hy y
          simp only [Value.slice.injEq, Option.some.injEq, Addr.mk.injEq, and_true] at e1
          obtain ⟨rfl, -, -⟩ := e1
          exact hf o
        have hclr : ∀ ty, (Builtin.clear_ #[31] ty #[.slice (some ⟨g, i * 4, none⟩) (xs.length - i) (c - i)]).run Try.prog wr = .ok (.tuple #[]) (wr.setCells g (i * 4) (zerosF (xs.length - i))) := fun ty => run_clearF wr ty g (i * 4) _ _ (by omega) (fun j hj => hcells _ (by omega)) (fun j _ => hfz _)
        obtain ⟨w2, hw2⟩ : ∃ z, z = wr.setCells g (i * 4) (zerosF (xs.length - i)) := ⟨_, rfl⟩
        have hk2 : Kpt [g] wr w2 := by rw [hw2]; exact kpt_setCells g _ _ _
        have HRD : Hid (RdX 4 (sP fldC) (fun b => B ≤ b) w2 (.slice (some ⟨g, 0, none⟩) i c) (cur.take i)) := Lib.hid (rd_front HC.out (by omega) (fun o ho => by rw [hw2]; exact World.cell?_setCells_out g _ _ _ _ (fun _ _ => .inl ho)) hk2.size)
        have HB2 := Lib.hid (HB.out.trans (hk2.below (B := B) (fun z hz => by rw [List.mem_singleton.1 hz]; exact hBg) (Nat.le_trans hB HB.out.size)))
        have HD := Lib.hid hd
        rw [← hw2] at hclr
        clear hw2 hk2 hcells hfz hd
        have i2 : (i : Int) ≤ (xs.length : Int) := by omega
        have i3 : (i : Int) ≤ (c : Int) := by omega
        have hic : xs.length ≤ c := hcap
        go_wp2_with fail
        go_ret
        rw [HD.out.2, ← HD.out.1]
        exact ⟨_, rfl, HRD.out, HB2.out⟩
end Go.Proofs.Ytjegocecgncpkaa.R
