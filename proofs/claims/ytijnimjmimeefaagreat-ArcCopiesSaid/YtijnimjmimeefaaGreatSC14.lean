/- Texts that the proof is made of, joined. No condition. -/
import Derived.Test.YtijnimjmimeefaaGreatSC12
import Derived.Lib.SlBytesConst
import Derived.SliceStrings
import Derived.Test.YtijnimjmimeefaaGreatSC3
import Derived.Test.YtijnimjmimeefaaGreatSC1
import Derived.Shelf.Strings.Builder1
import Derived.Shelf.Small.Wraps
import Derived.Shelf.Strings.BuilderF
import Derived.Shelf.Strings.BuilderK
import Derived.Shelf.LaysM
import Derived.Shelf.Strconv.Clone
import Derived.Shelf.Strings.Search1
import Derived.Shelf.Strings.Search2
import Derived.Shelf.Strings.Cut
import Derived.Shelf.Strings.Shaped
import Derived.Shelf.Strings.Prefix
import Derived.Shelf.Slices.Equal
import Derived.Shelf.Slices.Empties2
import Derived.Shelf.Bytes.SlSearch0
import Derived.Ground.SlbCloneProg
import Derived.Shelf.Bytes.SlClone
import Derived.Shelf.Bytes.SlSmallAll
import Derived.Shelf.Bytes.SlEqualAll
import Derived.Shelf.Bytes.Small
import Derived.Test.YtijnimjmimeefaaGreatProg
import Derived.Test.YtijnimjmimeefaaGreatSC13
import Derived.Test.YtijnimjmimeefaaGreatSC8
import Derived.Test.YtijnimjmimeefaaGreatSCH
set_option linter.unusedVariables false
set_option linter.unusedSimpArgs false
set_option maxRecDepth 100000
set_option maxHeartbeats 16000000
namespace Go.Proofs.YtijnimjmimeefaaGreat.A
open Go.RowKit Go.Proofs.YtijnimjmimeefaaGreat.D Go.Proofs.YtijnimjmimeefaaGreat.O
theorem num2_d (g : Nat) (ok : Nat -> Prop) (wb pb mb : Nat) (st : WS) (x y : Int) (w : World) (hg : g = w.heap.size) (T : TypeId) (h : Wt w ok wb pb mb st) (hok : ∀ x, ok x -> x < w.heap.size) (hx : 0 <= x /\ x <= 2000) (hy : 0 <= y /\ y <= 2000) (hr : Room st 1) :
  Calls Tryz.prog 113 #[.pointer (some ⟨wb, 0, none⟩), .slice (some ⟨g, 0, none⟩) 2 2] (w.alloc (.cells #[.int .i64 x, .int .i64 y] T)).drew (Wrote ok wb pb mb (wNums [x, y] st) (w.alloc (.cells #[.int .i64 x, .int .i64 y] T)).drew) := by
 subst hg
 refine nums_w ok wb pb mb st _ 2 2 [x, y] 1 _ (h.below ((Below.refl _ _).alloc (Nat.le_refl _) _).drew (fun _ hx => .inl hx)) (fun x hx => by have := hok x hx; simp; omega) (by
   intro u hu
   simp only [List.mem_cons, List.not_mem_nil, or_false] at hu
   rcases hu with rfl | rfl <;> omega) (by simp) (by decide) hr ?_ (fun g hg => by cases hg; simp)
 exact (rdI_lit (vs := [.int .i64 x, .int .i64 y]) (zs := [x, y]) T rfl (by
   intro u hu
   simp only [List.mem_cons, List.not_mem_nil, or_false] at hu
   rcases hu with rfl | rfl <;> omega) : RdI (w.alloc (.cells #[.int .i64 x, .int .i64 y] T)) _ _)
theorem method_true_true (wb pb mb : Nat) (nm : ByteArray) (ps : List Ty) (r0 : Int) (r1 : ByteArray) (lo : Int) (code : List Ins) (hs : List Hnd) (pp pc ph : Option Addr) (np nc nh cp cc ch : Nat) (hx : goodM (⟨nm, ps, (r0, r1), true, true, lo, code, hs⟩ : Mth)) (ok : Nat -> Prop) (st : WS) (w : World) (hw : Wt w ok wb pb mb st) (hok : ∀ b, ok b -> b < w.heap.size)
  (hp : RdX 2 (sP tyC) ok w (.slice pp np cp) ps) (hc : RdX 7 (sP insC) ok w (.slice pc nc cc) code) (hh : RdX 4 (sP hndC) ok w (.slice ph nh ch) hs) (hroom : Room st (costM (⟨nm, ps, (r0, r1), true, true, lo, code, hs⟩ : Mth))) :
  Calls Tryz.prog 120 #[.pointer (some ⟨wb, 0, none⟩), .agg #[.string nm, .slice pp np cp, .int .i64 r0, .string r1, .bool true, .bool true, .int .i64 lo, .slice pc nc cc, .slice ph nh ch]] w (Wrote ok wb pb mb (wMth (⟨nm, ps, (r0, r1), true, true, lo, code, hs⟩ : Mth) st) w) := by
 obtain ⟨hx, hwf⟩ := hx
 unfold mthB at hx
 simp only [Bool.and_eq_true, allB_iff, upToB_iff] at hx
 obtain ⟨⟨⟨⟨⟨hn, hps⟩, hr⟩, l0, l1⟩, hcode⟩, hhs⟩ := hx
 unfold costM at hroom
 simp only at hroom
 have g1 := name_size hn
 have g2 := ofT_size (r := (r0, r1)) hps.2 hps.1 hr
 have hzp : ∀ u ∈ ps, u.2.size <= 1000000 := fun u hu => by
  have := hps.2 u hu
  unfold holdsB at this
  simp only [Bool.and_eq_true] at this
  have h := this.1
  unfold rightB at h
  split at h
  ·have := name_size h; omega
  ·simp only [Bool.and_eq_true, decide_eq_true_eq] at h; omega
 have hzr : r1.size <= 1000000 := by
  have h := hr
  unfold rightB at h
  split at h
  ·have := name_size h; omega
  ·simp only [Bool.and_eq_true, decide_eq_true_eq] at h; omega
 have hG1 : ∀ x ∈ code, goodI x := fun x hx => ⟨hcode.2 x hx, hwf x hx⟩
 have hs1 := sum_const (α := Ins) 4 code
 have hs2 := sum_const (α := Hnd) 2 hs
 have hl1 : code.length <= 1000000 := by have := hcode.1; omega
 have hl2 : hs.length <= 1000000 := by have := hhs.1; omega
 have hl8 : ps.length <= 1000 := by have := hps.1; omega
 have R1 := hroom.next (b := 4 + code.length * 4 + hs.length * 2) (ext_text (s := nm) (by omega)) (by omega)
 have R2 := R1.next (b := 3 + code.length * 4 + hs.length * 2) (ext_text (s := ofT ps (r0, r1)) (by omega)) (by omega)
 have R3 := R2.next (b := 2 + code.length * 4 + hs.length * 2) (ext_nums (n := 1) (zs := [3, lo]) (by simp; omega) (by simp)) (by omega)
 have E1 := ext_list (f := wIns) (c := fun _ => 4) (l := code) (fun x hx => ext_ins (hcode.2 x hx) (hwf x hx)) (by omega)
 rw [hs1] at E1
 have R4 := R3.next (b := 1 + hs.length * 2) E1 (by omega)
 have HP := hid hp
 have HC := hid hc
 have HH := hid hh
 have HG := hid hG1
 have HS := hid hhs.2
 have HZ := hid hzp
 have HS1 := hid hs1
 have HS2 := hid hs2
 clear hp hc hh hG1 hzp hs1 hs2 hps hcode hhs hwf hr hn E1
 have H0 := Sit.start [.string nm, .slice pp np cp, .int .i64 r0, .string r1, .bool true, .bool true, .int .i64 lo, .slice pc nc cc, .slice ph nh ch] 59 hw hok
 go_enter Tryz.func120, Tryz.ntmps120
 go_wp2_with fail
 refine (text_w _ wb pb mb _ nm _ H0.1 H0.2.1 (by omega) (hroom.le (by omega))).mono ?_
 intro e w1 hq
 obtain ⟨rfl, H1⟩ := H0.wrote hq
 clear hq
 obtain ⟨a1_0, a1_1, a1_2, a1_3, a1_4, a1_5, a1_6, a1_7, a1_8⟩ := z9 H1.2.2.1
 have hX1 := H1.2.1 _ (.inr rfl)
 go_wp2_with fail
 refine (of_any _ ps r0 r1 _ (rdT_of (H1.rd (sP.grow _) HP.out)) hl8 HZ.out hzr).mono ?_
 rintro e w2 ⟨rfl, hb2⟩
 have H2 := H1.below hb2
 obtain ⟨a2_0, a2_1, a2_2, a2_3, a2_4, a2_5, a2_6, a2_7, a2_8⟩ := z9 H2.2.2.1
 have hX2 := H2.2.1 _ (.inr rfl)
 go_wp2_with fail
 refine (text_w _ wb pb mb _ (ofT ps (r0, r1)) _ H2.1 H2.2.1 (by omega) (R1.le (by omega))).mono ?_
 intro e w3 hq
 obtain ⟨rfl, H3⟩ := H2.wrote hq
 clear hq
 obtain ⟨a3_0, a3_1, a3_2, a3_3, a3_4, a3_5, a3_6, a3_7, a3_8⟩ := z9 H3.2.2.1
 have hX3 := H3.2.1 _ (.inr rfl)
 have hb1 : bitN true 1 = 1 := rfl
 have hb2 : bitN true 2 = 2 := rfl
 have hbits : bits BinOp.or IntKind.i64 1 2 = 3 := by decide
 go_wp2_with fail
 go_region_law (first
  | (rw [if_pos (by rfl)]; go_simp; go_at_call 165; refine (bit_any _ _ _).mono ?_; rintro e w' ⟨rfl, rfl⟩)
  | (rw [if_pos (by rfl)]; go_simp; go_at_call 113; refine (num2_d w3.heap.size _ wb pb mb _ 3 lo _ rfl _ H3.1 H3.2.1 (by decide) ⟨l0, by omega⟩ (R2.le (by omega))).mono ?_; intro e w4 hq; obtain ⟨rfl, H4⟩ := (H3.alloc _).drew.wrote hq; clear hq))
 all_goals
  obtain ⟨a4_0, a4_1, a4_2, a4_3, a4_4, a4_5, a4_6, a4_7, a4_8⟩ := z9 H4.2.2.1
  have hX4 := H4.2.1 _ (.inr rfl)
  go_wp2_with fail
  refine (putList_ins wIns (fun _ => 4) goodI wb pb mb (fun x hx => ext_ins hx.1 hx.2) (fun x hx => instr_put wb pb mb x hx) code _ _ _ _ _ _ H4.1 H4.2.1 (H4.rd (sP.grow _) HC.out) HG.out (by rw [HS1.out]; exact R3.le (by omega)) hl1).mono ?_
  intro e w5 hq
  obtain ⟨rfl, H5⟩ := H4.wrote hq
  clear hq
  obtain ⟨a5_0, a5_1, a5_2, a5_3, a5_4, a5_5, a5_6, a5_7, a5_8⟩ := z9 H5.2.2.1
  have hX5 := H5.2.1 _ (.inr rfl)
  go_wp2_with fail
  refine (putList_hnd wHnd (fun _ => 2) (fun x => hndB x = true) wb pb mb (fun x hx => ext_hnd hx) (fun x hx => handler_put wb pb mb x hx) hs _ _ _ _ _ _ H5.1 H5.2.1 (H5.rd (sP.grow _) HH.out) HS.out (by rw [HS2.out]; exact R4) hl2).mono ?_
  intro e w6 hq
  obtain ⟨rfl, H6⟩ := H5.wrote hq
  clear hq
  obtain ⟨a6_0, a6_1, a6_2, a6_3, a6_4, a6_5, a6_6, a6_7, a6_8⟩ := z9 H6.2.2.1
  have hX6 := H6.2.1 _ (.inr rfl)
  go_wp2_with fail
  exact bodyPost_end (results_none rfl _ _ _) rfl H6.fin
theorem method_true_false (wb pb mb : Nat) (nm : ByteArray) (ps : List Ty) (r0 : Int) (r1 : ByteArray) (lo : Int) (code : List Ins) (hs : List Hnd) (pp pc ph : Option Addr) (np nc nh cp cc ch : Nat) (hx : goodM (⟨nm, ps, (r0, r1), true, false, lo, code, hs⟩ : Mth)) (ok : Nat -> Prop) (st : WS) (w : World) (hw : Wt w ok wb pb mb st) (hok : ∀ b, ok b -> b < w.heap.size)
  (hp : RdX 2 (sP tyC) ok w (.slice pp np cp) ps) (hc : RdX 7 (sP insC) ok w (.slice pc nc cc) code) (hh : RdX 4 (sP hndC) ok w (.slice ph nh ch) hs) (hroom : Room st (costM (⟨nm, ps, (r0, r1), true, false, lo, code, hs⟩ : Mth))) :
  Calls Tryz.prog 120 #[.pointer (some ⟨wb, 0, none⟩), .agg #[.string nm, .slice pp np cp, .int .i64 r0, .string r1, .bool true, .bool false, .int .i64 lo, .slice pc nc cc, .slice ph nh ch]] w (Wrote ok wb pb mb (wMth (⟨nm, ps, (r0, r1), true, false, lo, code, hs⟩ : Mth) st) w) := by
 obtain ⟨hx, hwf⟩ := hx
 unfold mthB at hx
 simp only [Bool.and_eq_true, allB_iff, upToB_iff] at hx
 obtain ⟨⟨⟨⟨⟨hn, hps⟩, hr⟩, l0, l1⟩, hcode⟩, hhs⟩ := hx
 unfold costM at hroom
 simp only at hroom
 have g1 := name_size hn
 have g2 := ofT_size (r := (r0, r1)) hps.2 hps.1 hr
 have hzp : ∀ u ∈ ps, u.2.size <= 1000000 := fun u hu => by
  have := hps.2 u hu
  unfold holdsB at this
  simp only [Bool.and_eq_true] at this
  have h := this.1
  unfold rightB at h
  split at h
  ·have := name_size h; omega
  ·simp only [Bool.and_eq_true, decide_eq_true_eq] at h; omega
 have hzr : r1.size <= 1000000 := by
  have h := hr
  unfold rightB at h
  split at h
  ·have := name_size h; omega
  ·simp only [Bool.and_eq_true, decide_eq_true_eq] at h; omega
 have hG1 : ∀ x ∈ code, goodI x := fun x hx => ⟨hcode.2 x hx, hwf x hx⟩
 have hs1 := sum_const (α := Ins) 4 code
 have hs2 := sum_const (α := Hnd) 2 hs
 have hl1 : code.length <= 1000000 := by have := hcode.1; omega
 have hl2 : hs.length <= 1000000 := by have := hhs.1; omega
 have hl8 : ps.length <= 1000 := by have := hps.1; omega
 have R1 := hroom.next (b := 4 + code.length * 4 + hs.length * 2) (ext_text (s := nm) (by omega)) (by omega)
 have R2 := R1.next (b := 3 + code.length * 4 + hs.length * 2) (ext_text (s := ofT ps (r0, r1)) (by omega)) (by omega)
 have R3 := R2.next (b := 2 + code.length * 4 + hs.length * 2) (ext_nums (n := 1) (zs := [1, lo]) (by simp; omega) (by simp)) (by omega)
 have E1 := ext_list (f := wIns) (c := fun _ => 4) (l := code) (fun x hx => ext_ins (hcode.2 x hx) (hwf x hx)) (by omega)
 rw [hs1] at E1
 have R4 := R3.next (b := 1 + hs.length * 2) E1 (by omega)
 have HP := hid hp
 have HC := hid hc
 have HH := hid hh
 have HG := hid hG1
 have HS := hid hhs.2
 have HZ := hid hzp
 have HS1 := hid hs1
 have HS2 := hid hs2
 clear hp hc hh hG1 hzp hs1 hs2 hps hcode hhs hwf hr hn E1
 have H0 := Sit.start [.string nm, .slice pp np cp, .int .i64 r0, .string r1, .bool true, .bool false, .int .i64 lo, .slice pc nc cc, .slice ph nh ch] 59 hw hok
 go_enter Tryz.func120, Tryz.ntmps120
 go_wp2_with fail
 refine (text_w _ wb pb mb _ nm _ H0.1 H0.2.1 (by omega) (hroom.le (by omega))).mono ?_
 intro e w1 hq
 obtain ⟨rfl, H1⟩ := H0.wrote hq
 clear hq
 obtain ⟨a1_0, a1_1, a1_2, a1_3, a1_4, a1_5, a1_6, a1_7, a1_8⟩ := z9 H1.2.2.1
 have hX1 := H1.2.1 _ (.inr rfl)
 go_wp2_with fail
 refine (of_any _ ps r0 r1 _ (rdT_of (H1.rd (sP.grow _) HP.out)) hl8 HZ.out hzr).mono ?_
 rintro e w2 ⟨rfl, hb2⟩
 have H2 := H1.below hb2
 obtain ⟨a2_0, a2_1, a2_2, a2_3, a2_4, a2_5, a2_6, a2_7, a2_8⟩ := z9 H2.2.2.1
 have hX2 := H2.2.1 _ (.inr rfl)
 go_wp2_with fail
 refine (text_w _ wb pb mb _ (ofT ps (r0, r1)) _ H2.1 H2.2.1 (by omega) (R1.le (by omega))).mono ?_
 intro e w3 hq
 obtain ⟨rfl, H3⟩ := H2.wrote hq
 clear hq
 obtain ⟨a3_0, a3_1, a3_2, a3_3, a3_4, a3_5, a3_6, a3_7, a3_8⟩ := z9 H3.2.2.1
 have hX3 := H3.2.1 _ (.inr rfl)
 have hb1 : bitN true 1 = 1 := rfl
 have hb2 : bitN false 2 = 0 := rfl
 have hbits : bits BinOp.or IntKind.i64 1 0 = 1 := by decide
 go_wp2_with fail
 go_region_law (first
  | (rw [if_pos (by rfl)]; go_simp; go_at_call 165; refine (bit_any _ _ _).mono ?_; rintro e w' ⟨rfl, rfl⟩)
  | (rw [if_pos (by rfl)]; go_simp; go_at_call 113; refine (num2_d w3.heap.size _ wb pb mb _ 1 lo _ rfl _ H3.1 H3.2.1 (by decide) ⟨l0, by omega⟩ (R2.le (by omega))).mono ?_; intro e w4 hq; obtain ⟨rfl, H4⟩ := (H3.alloc _).drew.wrote hq; clear hq))
 all_goals
  obtain ⟨a4_0, a4_1, a4_2, a4_3, a4_4, a4_5, a4_6, a4_7, a4_8⟩ := z9 H4.2.2.1
  have hX4 := H4.2.1 _ (.inr rfl)
  go_wp2_with fail
  refine (putList_ins wIns (fun _ => 4) goodI wb pb mb (fun x hx => ext_ins hx.1 hx.2) (fun x hx => instr_put wb pb mb x hx) code _ _ _ _ _ _ H4.1 H4.2.1 (H4.rd (sP.grow _) HC.out) HG.out (by rw [HS1.out]; exact R3.le (by omega)) hl1).mono ?_
  intro e w5 hq
  obtain ⟨rfl, H5⟩ := H4.wrote hq
  clear hq
  obtain ⟨a5_0, a5_1, a5_2, a5_3, a5_4, a5_5, a5_6, a5_7, a5_8⟩ := z9 H5.2.2.1
  have hX5 := H5.2.1 _ (.inr rfl)
  go_wp2_with fail
  refine (putList_hnd wHnd (fun _ => 2) (fun x => hndB x = true) wb pb mb (fun x hx => ext_hnd hx) (fun x hx => handler_put wb pb mb x hx) hs _ _ _ _ _ _ H5.1 H5.2.1 (H5.rd (sP.grow _) HH.out) HS.out (by rw [HS2.out]; exact R4) hl2).mono ?_
  intro e w6 hq
  obtain ⟨rfl, H6⟩ := H5.wrote hq
  clear hq
  obtain ⟨a6_0, a6_1, a6_2, a6_3, a6_4, a6_5, a6_6, a6_7, a6_8⟩ := z9 H6.2.2.1
  have hX6 := H6.2.1 _ (.inr rfl)
  go_wp2_with fail
  exact bodyPost_end (results_none rfl _ _ _) rfl H6.fin
theorem method_false_true (wb pb mb : Nat) (nm : ByteArray) (ps : List Ty) (r0 : Int) (r1 : ByteArray) (lo : Int) (code : List Ins) (hs : List Hnd) (pp pc ph : Option Addr) (np nc nh cp cc ch : Nat) (hx : goodM (⟨nm, ps, (r0, r1), false, true, lo, code, hs⟩ : Mth)) (ok : Nat -> Prop) (st : WS) (w : World) (hw : Wt w ok wb pb mb st) (hok : ∀ b, ok b -> b < w.heap.size)
  (hp : RdX 2 (sP tyC) ok w (.slice pp np cp) ps) (hc : RdX 7 (sP insC) ok w (.slice pc nc cc) code) (hh : RdX 4 (sP hndC) ok w (.slice ph nh ch) hs) (hroom : Room st (costM (⟨nm, ps, (r0, r1), false, true, lo, code, hs⟩ : Mth))) :
  Calls Tryz.prog 120 #[.pointer (some ⟨wb, 0, none⟩), .agg #[.string nm, .slice pp np cp, .int .i64 r0, .string r1, .bool false, .bool true, .int .i64 lo, .slice pc nc cc, .slice ph nh ch]] w (Wrote ok wb pb mb (wMth (⟨nm, ps, (r0, r1), false, true, lo, code, hs⟩ : Mth) st) w) := by
 obtain ⟨hx, hwf⟩ := hx
 unfold mthB at hx
 simp only [Bool.and_eq_true, allB_iff, upToB_iff] at hx
 obtain ⟨⟨⟨⟨⟨hn, hps⟩, hr⟩, l0, l1⟩, hcode⟩, hhs⟩ := hx
 unfold costM at hroom
 simp only at hroom
 have g1 := name_size hn
 have g2 := ofT_size (r := (r0, r1)) hps.2 hps.1 hr
 have hzp : ∀ u ∈ ps, u.2.size <= 1000000 := fun u hu => by
  have := hps.2 u hu
  unfold holdsB at this
  simp only [Bool.and_eq_true] at this
  have h := this.1
  unfold rightB at h
  split at h
  ·have := name_size h; omega
  ·simp only [Bool.and_eq_true, decide_eq_true_eq] at h; omega
 have hzr : r1.size <= 1000000 := by
  have h := hr
  unfold rightB at h
  split at h
  ·have := name_size h; omega
  ·simp only [Bool.and_eq_true, decide_eq_true_eq] at h; omega
 have hG1 : ∀ x ∈ code, goodI x := fun x hx => ⟨hcode.2 x hx, hwf x hx⟩
 have hs1 := sum_const (α := Ins) 4 code
 have hs2 := sum_const (α := Hnd) 2 hs
 have hl1 : code.length <= 1000000 := by have := hcode.1; omega
 have hl2 : hs.length <= 1000000 := by have := hhs.1; omega
 have hl8 : ps.length <= 1000 := by have := hps.1; omega
 have R1 := hroom.next (b := 4 + code.length * 4 + hs.length * 2) (ext_text (s := nm) (by omega)) (by omega)
 have R2 := R1.next (b := 3 + code.length * 4 + hs.length * 2) (ext_text (s := ofT ps (r0, r1)) (by omega)) (by omega)
 have R3 := R2.next (b := 2 + code.length * 4 + hs.length * 2) (ext_nums (n := 1) (zs := [2, lo]) (by simp; omega) (by simp)) (by omega)
 have E1 := ext_list (f := wIns) (c := fun _ => 4) (l := code) (fun x hx => ext_ins (hcode.2 x hx) (hwf x hx)) (by omega)
 rw [hs1] at E1
 have R4 := R3.next (b := 1 + hs.length * 2) E1 (by omega)
 have HP := hid hp
 have HC := hid hc
 have HH := hid hh
 have HG := hid hG1
 have HS := hid hhs.2
 have HZ := hid hzp
 have HS1 := hid hs1
 have HS2 := hid hs2
 clear hp hc hh hG1 hzp hs1 hs2 hps hcode hhs hwf hr hn E1
 have H0 := Sit.start [.string nm, .slice pp np cp, .int .i64 r0, .string r1, .bool false, .bool true, .int .i64 lo, .slice pc nc cc, .slice ph nh ch] 59 hw hok
 go_enter Tryz.func120, Tryz.ntmps120
 go_wp2_with fail
 refine (text_w _ wb pb mb _ nm _ H0.1 H0.2.1 (by omega) (hroom.le (by omega))).mono ?_
 intro e w1 hq
 obtain ⟨rfl, H1⟩ := H0.wrote hq
 clear hq
 obtain ⟨a1_0, a1_1, a1_2, a1_3, a1_4, a1_5, a1_6, a1_7, a1_8⟩ := z9 H1.2.2.1
 have hX1 := H1.2.1 _ (.inr rfl)
 go_wp2_with fail
 refine (of_any _ ps r0 r1 _ (rdT_of (H1.rd (sP.grow _) HP.out)) hl8 HZ.out hzr).mono ?_
 rintro e w2 ⟨rfl, hb2⟩
 have H2 := H1.below hb2
 obtain ⟨a2_0, a2_1, a2_2, a2_3, a2_4, a2_5, a2_6, a2_7, a2_8⟩ := z9 H2.2.2.1
 have hX2 := H2.2.1 _ (.inr rfl)
 go_wp2_with fail
 refine (text_w _ wb pb mb _ (ofT ps (r0, r1)) _ H2.1 H2.2.1 (by omega) (R1.le (by omega))).mono ?_
 intro e w3 hq
 obtain ⟨rfl, H3⟩ := H2.wrote hq
 clear hq
 obtain ⟨a3_0, a3_1, a3_2, a3_3, a3_4, a3_5, a3_6, a3_7, a3_8⟩ := z9 H3.2.2.1
 have hX3 := H3.2.1 _ (.inr rfl)
 have hb1 : bitN false 1 = 0 := rfl
 have hb2 : bitN true 2 = 2 := rfl
 have hbits : bits BinOp.or IntKind.i64 0 2 = 2 := by decide
 go_wp2_with fail
 go_region_law (first
  | (rw [if_pos (by rfl)]; go_simp; go_at_call 165; refine (bit_any _ _ _).mono ?_; rintro e w' ⟨rfl, rfl⟩)
  | (rw [if_pos (by rfl)]; go_simp; go_at_call 113; refine (num2_d w3.heap.size _ wb pb mb _ 2 lo _ rfl _ H3.1 H3.2.1 (by decide) ⟨l0, by omega⟩ (R2.le (by omega))).mono ?_; intro e w4 hq; obtain ⟨rfl, H4⟩ := (H3.alloc _).drew.wrote hq; clear hq))
 all_goals
  obtain ⟨a4_0, a4_1, a4_2, a4_3, a4_4, a4_5, a4_6, a4_7, a4_8⟩ := z9 H4.2.2.1
  have hX4 := H4.2.1 _ (.inr rfl)
  go_wp2_with fail
  refine (putList_ins wIns (fun _ => 4) goodI wb pb mb (fun x hx => ext_ins hx.1 hx.2) (fun x hx => instr_put wb pb mb x hx) code _ _ _ _ _ _ H4.1 H4.2.1 (H4.rd (sP.grow _) HC.out) HG.out (by rw [HS1.out]; exact R3.le (by omega)) hl1).mono ?_
  intro e w5 hq
  obtain ⟨rfl, H5⟩ := H4.wrote hq
  clear hq
  obtain ⟨a5_0, a5_1, a5_2, a5_3, a5_4, a5_5, a5_6, a5_7, a5_8⟩ := z9 H5.2.2.1
  have hX5 := H5.2.1 _ (.inr rfl)
  go_wp2_with fail
  refine (putList_hnd wHnd (fun _ => 2) (fun x => hndB x = true) wb pb mb (fun x hx => ext_hnd hx) (fun x hx => handler_put wb pb mb x hx) hs _ _ _ _ _ _ H5.1 H5.2.1 (H5.rd (sP.grow _) HH.out) HS.out (by rw [HS2.out]; exact R4) hl2).mono ?_
  intro e w6 hq
  obtain ⟨rfl, H6⟩ := H5.wrote hq
  clear hq
  obtain ⟨a6_0, a6_1, a6_2, a6_3, a6_4, a6_5, a6_6, a6_7, a6_8⟩ := z9 H6.2.2.1
  have hX6 := H6.2.1 _ (.inr rfl)
  go_wp2_with fail
  exact bodyPost_end (results_none rfl _ _ _) rfl H6.fin
theorem method_false_false (wb pb mb : Nat) (nm : ByteArray) (ps : List Ty) (r0 : Int) (r1 : ByteArray) (lo : Int) (code : List Ins) (hs : List Hnd) (pp pc ph : Option Addr) (np nc nh cp cc ch : Nat) (hx : goodM (⟨nm, ps, (r0, r1), false, false, lo, code, hs⟩ : Mth)) (ok : Nat -> Prop) (st : WS) (w : World) (hw : Wt w ok wb pb mb st) (hok : ∀ b, ok b -> b < w.heap.size)
  (hp : RdX 2 (sP tyC) ok w (.slice pp np cp) ps) (hc : RdX 7 (sP insC) ok w (.slice pc nc cc) code) (hh : RdX 4 (sP hndC) ok w (.slice ph nh ch) hs) (hroom : Room st (costM (⟨nm, ps, (r0, r1), false, false, lo, code, hs⟩ : Mth))) :
  Calls Tryz.prog 120 #[.pointer (some ⟨wb, 0, none⟩), .agg #[.string nm, .slice pp np cp, .int .i64 r0, .string r1, .bool false, .bool false, .int .i64 lo, .slice pc nc cc, .slice ph nh ch]] w (Wrote ok wb pb mb (wMth (⟨nm, ps, (r0, r1), false, false, lo, code, hs⟩ : Mth) st) w) := by
 obtain ⟨hx, hwf⟩ := hx
 unfold mthB at hx
 simp only [Bool.and_eq_true, allB_iff, upToB_iff] at hx
 obtain ⟨⟨⟨⟨⟨hn, hps⟩, hr⟩, l0, l1⟩, hcode⟩, hhs⟩ := hx
 unfold costM at hroom
 simp only at hroom
 have g1 := name_size hn
 have g2 := ofT_size (r := (r0, r1)) hps.2 hps.1 hr
 have hzp : ∀ u ∈ ps, u.2.size <= 1000000 := fun u hu => by
  have := hps.2 u hu
  unfold holdsB at this
  simp only [Bool.and_eq_true] at this
  have h := this.1
  unfold rightB at h
  split at h
  ·have := name_size h; omega
  ·simp only [Bool.and_eq_true, decide_eq_true_eq] at h; omega
 have hzr : r1.size <= 1000000 := by
  have h := hr
  unfold rightB at h
  split at h
  ·have := name_size h; omega
  ·simp only [Bool.and_eq_true, decide_eq_true_eq] at h; omega
 have hG1 : ∀ x ∈ code, goodI x := fun x hx => ⟨hcode.2 x hx, hwf x hx⟩
 have hs1 := sum_const (α := Ins) 4 code
 have hs2 := sum_const (α := Hnd) 2 hs
 have hl1 : code.length <= 1000000 := by have := hcode.1; omega
 have hl2 : hs.length <= 1000000 := by have := hhs.1; omega
 have hl8 : ps.length <= 1000 := by have := hps.1; omega
 have R1 := hroom.next (b := 4 + code.length * 4 + hs.length * 2) (ext_text (s := nm) (by omega)) (by omega)
 have R2 := R1.next (b := 3 + code.length * 4 + hs.length * 2) (ext_text (s := ofT ps (r0, r1)) (by omega)) (by omega)
 have R3 := R2.next (b := 2 + code.length * 4 + hs.length * 2) (ext_nums (n := 1) (zs := [0, lo]) (by simp; omega) (by simp)) (by omega)
 have E1 := ext_list (f := wIns) (c := fun _ => 4) (l := code) (fun x hx => ext_ins (hcode.2 x hx) (hwf x hx)) (by omega)
 rw [hs1] at E1
 have R4 := R3.next (b := 1 + hs.length * 2) E1 (by omega)
 have HP := hid hp
 have HC := hid hc
 have HH := hid hh
 have HG := hid hG1
 have HS := hid hhs.2
 have HZ := hid hzp
 have HS1 := hid hs1
 have HS2 := hid hs2
 clear hp hc hh hG1 hzp hs1 hs2 hps hcode hhs hwf hr hn E1
 have H0 := Sit.start [.string nm, .slice pp np cp, .int .i64 r0, .string r1, .bool false, .bool false, .int .i64 lo, .slice pc nc cc, .slice ph nh ch] 59 hw hok
 go_enter Tryz.func120, Tryz.ntmps120
 go_wp2_with fail
 refine (text_w _ wb pb mb _ nm _ H0.1 H0.2.1 (by omega) (hroom.le (by omega))).mono ?_
 intro e w1 hq
 obtain ⟨rfl, H1⟩ := H0.wrote hq
 clear hq
 obtain ⟨a1_0, a1_1, a1_2, a1_3, a1_4, a1_5, a1_6, a1_7, a1_8⟩ := z9 H1.2.2.1
 have hX1 := H1.2.1 _ (.inr rfl)
 go_wp2_with fail
 refine (of_any _ ps r0 r1 _ (rdT_of (H1.rd (sP.grow _) HP.out)) hl8 HZ.out hzr).mono ?_
 rintro e w2 ⟨rfl, hb2⟩
 have H2 := H1.below hb2
 obtain ⟨a2_0, a2_1, a2_2, a2_3, a2_4, a2_5, a2_6, a2_7, a2_8⟩ := z9 H2.2.2.1
 have hX2 := H2.2.1 _ (.inr rfl)
 go_wp2_with fail
 refine (text_w _ wb pb mb _ (ofT ps (r0, r1)) _ H2.1 H2.2.1 (by omega) (R1.le (by omega))).mono ?_
 intro e w3 hq
 obtain ⟨rfl, H3⟩ := H2.wrote hq
 clear hq
 obtain ⟨a3_0, a3_1, a3_2, a3_3, a3_4, a3_5, a3_6, a3_7, a3_8⟩ := z9 H3.2.2.1
 have hX3 := H3.2.1 _ (.inr rfl)
 have hb1 : bitN false 1 = 0 := rfl
 have hb2 : bitN false 2 = 0 := rfl
 have hbits : bits BinOp.or IntKind.i64 0 0 = 0 := by decide
 go_wp2_with fail
 go_region_law (first
  | (rw [if_pos (by rfl)]; go_simp; go_at_call 165; refine (bit_any _ _ _).mono ?_; rintro e w' ⟨rfl, rfl⟩)
  | (rw [if_pos (by rfl)]; go_simp; go_at_call 113; refine (num2_d w3.heap.size _ wb pb mb _ 0 lo _ rfl _ H3.1 H3.2.1 (by decide) ⟨l0, by omega⟩ (R2.le (by omega))).mono ?_; intro e w4 hq; obtain ⟨rfl, H4⟩ := (H3.alloc _).drew.wrote hq; clear hq))
 all_goals
  obtain ⟨a4_0, a4_1, a4_2, a4_3, a4_4, a4_5, a4_6, a4_7, a4_8⟩ := z9 H4.2.2.1
  have hX4 := H4.2.1 _ (.inr rfl)
  go_wp2_with fail
  refine (putList_ins wIns (fun _ => 4) goodI wb pb mb (fun x hx => ext_ins hx.1 hx.2) (fun x hx => instr_put wb pb mb x hx) code _ _ _ _ _ _ H4.1 H4.2.1 (H4.rd (sP.grow _) HC.out) HG.out (by rw [HS1.out]; exact R3.le (by omega)) hl1).mono ?_
  intro e w5 hq
  obtain ⟨rfl, H5⟩ := H4.wrote hq
  clear hq
  obtain ⟨a5_0, a5_1, a5_2, a5_3, a5_4, a5_5, a5_6, a5_7, a5_8⟩ := z9 H5.2.2.1
  have hX5 := H5.2.1 _ (.inr rfl)
  go_wp2_with fail
  refine (putList_hnd wHnd (fun _ => 2) (fun x => hndB x = true) wb pb mb (fun x hx => ext_hnd hx) (fun x hx => handler_put wb pb mb x hx) hs _ _ _ _ _ _ H5.1 H5.2.1 (H5.rd (sP.grow _) HH.out) HS.out (by rw [HS2.out]; exact R4) hl2).mono ?_
  intro e w6 hq
  obtain ⟨rfl, H6⟩ := H5.wrote hq
  clear hq
  obtain ⟨a6_0, a6_1, a6_2, a6_3, a6_4, a6_5, a6_6, a6_7, a6_8⟩ := z9 H6.2.2.1
  have hX6 := H6.2.1 _ (.inr rfl)
  go_wp2_with fail
  exact bodyPost_end (results_none rfl _ _ _) rfl H6.fin
end Go.Proofs.YtijnimjmimeefaaGreat.A
namespace Go.Proofs.YtijnimjmimeefaaGreat.A
open Go.RowKit Go.Proofs.YtijnimjmimeefaaGreat.D Go.Proofs.YtijnimjmimeefaaGreat.O
theorem method_put (wb pb mb : Nat) (x : Mth) (hx : goodM x) (ok : Nat -> Prop) (vs : List Value) (st : WS) (w : World) (hw : Wt w ok wb pb mb st) (hok : ∀ b, ok b -> b < w.heap.size) (hv : mP ok w vs x) (hroom : Room st (costM x)) :
  Calls Tryz.prog 120 #[.pointer (some ⟨wb, 0, none⟩), .agg vs.toArray] w (Wrote ok wb pb mb (wMth x st) w) := by
 obtain ⟨vp, vc, vh, rfl, h1, h2, h3⟩ := hv
 obtain ⟨pp, cp, rfl, -⟩ := h1.len
 obtain ⟨pc, cc, rfl, -⟩ := h2.len
 obtain ⟨ph, ch, rfl, -⟩ := h3.len
 obtain ⟨nm, ps, ⟨r0, r1⟩, s, a, lo, code, hs⟩ := x
 cases s <;> cases a
 ·exact method_false_false wb pb mb nm ps r0 r1 lo code hs _ _ _ _ _ _ _ _ _ hx ok st w hw hok h1 h2 h3 hroom
 ·exact method_false_true wb pb mb nm ps r0 r1 lo code hs _ _ _ _ _ _ _ _ _ hx ok st w hw hok h1 h2 h3 hroom
 ·exact method_true_false wb pb mb nm ps r0 r1 lo code hs _ _ _ _ _ _ _ _ _ hx ok st w hw hok h1 h2 h3 hroom
 ·exact method_true_true wb pb mb nm ps r0 r1 lo code hs _ _ _ _ _ _ _ _ _ hx ok st w hw hok h1 h2 h3 hroom
theorem class_box (wb pb mb : Nat) (nm su : ByteArray) (is : List ByteArray) (kd : Int) (fs : List Fld) (ms : List Mth) (pi pf pm : Option Addr) (ni nf nx ci cf cm : Nat) (hx : goodC ⟨nm, su, is, kd, fs, ms⟩) (ok : Nat -> Prop) (st : WS) (w : World) (hw : Wt w ok wb pb mb st) (hok : ∀ b, ok b -> b < w.heap.size)
  (hi : RdX 1 (sP strC) ok w (.slice pi ni ci) is) (hf : RdX 4 (sP fldC) ok w (.slice pf nf cf) fs) (hm : RdX 9 mP ok w (.slice pm nx cm) ms) (hroom : Room st (costC ⟨nm, su, is, kd, fs, ms⟩)) :
  Calls Tryz.prog 72 #[.pointer (some ⟨wb, 0, none⟩), .agg #[.string nm, .string su, .slice pi ni ci, .int .i64 kd, .slice pf nf cf, .slice pm nx cm]] w (Wrote ok wb pb mb (wCls ⟨nm, su, is, kd, fs, ms⟩ st) w) := by
 obtain ⟨hx, hwf⟩ := hx
 unfold clsB at hx
 simp only [Bool.and_eq_true, allB_iff, decide_eq_true_eq] at hx
 obtain ⟨⟨⟨⟨⟨hn, hs⟩, hi'⟩, hk⟩, hf'⟩, hm'⟩ := hx
 unfold costC at hroom
 simp only at hroom
 have g1 := name_size hn
 have g2 := name_size hs
 have hs1 := sum_const (α := ByteArray) 1 is
 have hs2 := sum_const (α := Fld) 3 fs
 obtain ⟨M, hM⟩ : ∃ M, M = (ms.map costM).sum := ⟨_, rfl⟩
 rw [<- hM] at hroom
 have hl1 : is.length <= 1000000 := by have := hi'.1; omega
 have hl2 : fs.length <= 1000000 := by have := hf'.1; omega
 have hl3 : ms.length <= 1000000 := by have := hm'.1; omega
 have hz1 : ∀ s ∈ is, s.size <= 1000 := fun s hs => by have := name_size (hi'.2 s hs); omega
 have hG : ∀ x ∈ ms, goodM x := fun x hx => ⟨hm'.2 x hx, hwf x hx⟩
 have R1 := hroom.next (b := 5 + is.length + fs.length * 3 + M) (ext_text (s := nm) (by omega)) (by omega)
 have R2 := R1.next (b := 4 + is.length + fs.length * 3 + M) (ext_text (s := su) (by omega)) (by omega)
 have E1 := ext_list (f := wText) (c := fun _ => 1) (l := is) (fun x hx => ext_text (hz1 x hx)) (by omega)
 rw [hs1] at E1
 have R3 := R2.next (b := 3 + fs.length * 3 + M) E1 (by omega)
 have R4 := R3.next (b := 2 + fs.length * 3 + M) (ext_nums (n := 1) (zs := [kd]) (by simp; omega) (by simp)) (by omega)
 have E2 := ext_list (f := wFld) (c := fun _ => 3) (l := fs) (fun x hx => ext_fld (hf'.2 x hx)) (by omega)
 rw [hs2] at E2
 have R5 := R4.next (b := 1 + M) E2 (by omega)
 have HI := hid hi
 have HF := hid hf
 have HM := hid hm
 have HG := hid hG
 have HZ := hid hz1
 have HFB := hid hf'.2
 have HS1 := hid hs1
 have HS2 := hid hs2
 have HMM := hid hM
 clear hi hf hm hG hz1 hs1 hs2 hM hi' hf' hm' hwf hn hs E1 E2
 have H0 := Sit.start [.string nm, .string su, .slice pi ni ci, .int .i64 kd, .slice pf nf cf, .slice pm nx cm] 52 hw hok
 go_enter Tryz.func72, Tryz.ntmps72
 go_wp2_with fail
 refine (text_w _ wb pb mb _ nm _ H0.1 H0.2.1 (by omega) (hroom.le (by omega))).mono ?_
 intro e w1 hq
 obtain ⟨rfl, H1⟩ := H0.wrote hq
 clear hq
 obtain ⟨a1_0, a1_1, a1_2, a1_3, a1_4, a1_5⟩ := z6 H1.2.2.1
 have hX1 := H1.2.1 _ (.inr rfl)
 go_wp2_with fail
 refine (text_w _ wb pb mb _ su _ H1.1 H1.2.1 (by omega) (R1.le (by omega))).mono ?_
 intro e w2 hq
 obtain ⟨rfl, H2⟩ := H1.wrote hq
 clear hq
 obtain ⟨a2_0, a2_1, a2_2, a2_3, a2_4, a2_5⟩ := z6 H2.2.2.1
 have hX2 := H2.2.1 _ (.inr rfl)
 go_wp2_with fail
 refine (putList_str wText (fun _ => 1) (fun s => s.size <= 1000) wb pb mb (fun x hx => ext_text hx) (fun x hx => text_put wb pb mb x hx) is _ _ _ _ _ _ H2.1 H2.2.1 (H2.rd (sP.grow _) HI.out) HZ.out (by rw [HS1.out]; exact R2.le (by omega)) hl1).mono ?_
 intro e w3 hq
 obtain ⟨rfl, H3⟩ := H2.wrote hq
 clear hq
 obtain ⟨a3_0, a3_1, a3_2, a3_3, a3_4, a3_5⟩ := z6 H3.2.2.1
 have hX3 := H3.2.1 _ (.inr rfl)
 go_wp2_with fail
 refine (num_w1 w3.heap.size _ wb pb mb _ kd _ rfl _ H3.1 H3.2.1 (by omega) (by omega) (R3.le (by omega))).mono ?_
 intro e w4 hq
 obtain ⟨rfl, H4⟩ := (H3.alloc _).wrote hq
 clear hq
 obtain ⟨a4_0, a4_1, a4_2, a4_3, a4_4, a4_5⟩ := z6 H4.2.2.1
 have hX4 := H4.2.1 _ (.inr rfl)
 go_wp2_with fail
 refine (putList_fld wFld (fun _ => 3) (fun f => fldB f = true) wb pb mb (fun x hx => ext_fld hx) (fun x hx => field_put wb pb mb x hx) fs _ _ _ _ _ _ H4.1 H4.2.1 (H4.rd (sP.grow _) HF.out) HFB.out (by rw [HS2.out]; exact R4.le (by omega)) hl2).mono ?_
 intro e w5 hq
 obtain ⟨rfl, H5⟩ := H4.wrote hq
 clear hq
 obtain ⟨a5_0, a5_1, a5_2, a5_3, a5_4, a5_5⟩ := z6 H5.2.2.1
 have hX5 := H5.2.1 _ (.inr rfl)
 go_wp2_with fail
 refine (putList_mth wMth costM goodM wb pb mb (fun x hx => ext_mth hx.1 hx.2) (fun x hx => method_put wb pb mb x hx) ms _ _ _ _ _ _ H5.1 H5.2.1 (H5.rd mP.grow HM.out) HG.out (by rw [<- HMM.out]; exact R5) hl3).mono ?_
 intro e w6 hq
 obtain ⟨rfl, H6⟩ := H5.wrote hq
 clear hq
 go_wp2_with fail
 exact bodyPost_end (results_none rfl _ _ _) rfl H6.fin
theorem class_put (wb pb mb : Nat) (x : Cls) (hx : goodC x) (ok : Nat -> Prop) (vs : List Value) (st : WS) (w : World) (hw : Wt w ok wb pb mb st) (hok : ∀ b, ok b -> b < w.heap.size) (hv : cP ok w vs x) (hroom : Room st (costC x)) :
  Calls Tryz.prog 72 #[.pointer (some ⟨wb, 0, none⟩), .agg vs.toArray] w (Wrote ok wb pb mb (wCls x st) w) := by
 obtain ⟨vp, vc, vh, rfl, h1, h2, h3⟩ := hv
 obtain ⟨pp, cp, rfl, -⟩ := h1.len
 obtain ⟨pc, cc, rfl, -⟩ := h2.len
 obtain ⟨ph, ch, rfl, -⟩ := h3.len
 obtain ⟨nm, su, is, kd, fs, ms⟩ := x
 exact class_box wb pb mb nm su is kd fs ms _ _ _ _ _ _ _ _ _ hx ok st w hw hok h1 h2 h3 hroom
def small (a : Arch) : Prop := costA a <= 8000000
theorem plen_s (B pb mb : Nat) (sl : Value) (L : List ByteArray) (w : World) (h : Pl w B pb mb sl L) :
  Calls Tryz.prog 73 #[.pointer (some ⟨pb, 0, none⟩)] w fun e w' => e = .returned (.int .i64 L.length) /\ w = w' := plen_any B pb mb sl L w h
def WrittenAns (a : Arch) (w : World) (e : Ending) (w' : World) : Prop :=
 Below w.heap.size w w' /\ if rightA a = true then ∃ wb pb mb, e = .returned (.tuple #[.pointer (some ⟨wb, 0, none⟩), .bool true]) /\ Wt w' (fun b => b < w.heap.size) wb pb mb (written a) else e = .returned (.tuple #[.pointer none, .bool false])
theorem written_any (a : Arch) (ok : Nat -> Prop) (p : Option Addr) (n cap : Nat) (w : World) (hz : szA a) (hwf : wfA a) (hsm : formedB a = true -> small a) (hg : Glob w) (hr : RdA ok w (.slice p n cap) a) :
  Calls Tryz.prog 37 #[.agg #[.slice p n cap]] w (WrittenAns a w) := by
 have hr0 : RdA (fun b => b < w.heap.size) w (.slice p n cap) a := hr.step cP.grow (fun b _ h => h) (fun _ _ _ => rfl) (Nat.le_refl _)
 have HR := hid hr0
 have hA : Below w.heap.size w (w.alloc (.cells #[.slice p n cap] 24)) := (Below.refl _ w).alloc (Nat.le_refl _) _
 have hg1 := hg.below hA (Nat.le_refl _)
 have hrA := hr0.any cP.grow hA
 have HA := hid hrA
 clear hr hr0 hrA
 cases hf : formedB a with
 | false =>
  have HF : Hid (rightA a = false) := hid (by unfold rightA; rw [hf]; rfl)
  go_enter Tryz.func37, Tryz.ntmps37
  go_wp2_with fail
  refine (formed_any a _ p n cap _ hz hg1 HA.out).mono ?_
  rintro e w1 ⟨rfl, hb1⟩
  have hx1 := boxed (vs := [.slice p n cap]) hb1
  go_wp2_with fail
  go_ret2
  refine ⟨hx1.2.2, ?_⟩
  rw [if_neg (by rw [HF.out]; decide)]
  rfl
 | true =>
  have hsma := hsm hf
  unfold small at hsma
  have hex := ext_arc hf hwf
  have hlen : a.length <= 1000000 := by
   have := hf
   unfold formedB at this
   rw [allB_iff] at this
   omega
  have hgood : ∀ c ∈ a, goodC c := fun c hc => by
   have := hf
   unfold formedB at this
   rw [allB_iff] at this
   exact ⟨this.2 c hc, hwf c hc⟩
  have HG := hid hgood
  have hroom : Room ([], []) (1 + (a.map costC).sum) := by unfold Room; unfold costA at hsma; simp; omega
  clear hex hgood hsma
  go_enter Tryz.func37, Tryz.ntmps37
  go_wp2_with fail
  refine (formed_any a _ p n cap _ hz hg1 HA.out).mono ?_
  rintro e w1 ⟨rfl, hb1⟩
  obtain ⟨hx1, hlt1, hB1⟩ := boxed (vs := [.slice p n cap]) hb1
  have q1 := hx1 0 _ rfl
  simp only [Nat.zero_add] at q1
  clear hb1 hx1
  go_wp2_with fail
  refine (pnew_any _).mono ?_
  rintro e w2 ⟨pb, mb, rfl, hp2, hb2⟩
  have q2 : w2.cell? ⟨w.heap.size, 0, none⟩ = some (.slice p n cap) := (hb2.cell (p := ⟨w.heap.size, 0, none⟩) hlt1).trans q1
  have hlt2 : w.heap.size < w2.heap.size := Nat.lt_of_lt_of_le hlt1 hb2.size
  have hB2 : Below w.heap.size w w2 := hB1.trans (hb2.mono hB1.size)
  have hB3 : Below w.heap.size w (w2.alloc (.cells #[.pointer (some ⟨pb, 0, none⟩), .slice none 0 0] 97)) := hB2.alloc (by omega) _
  have hfp := hp2.lt
  have hw3 : Wt (w2.alloc (.cells #[.pointer (some ⟨pb, 0, none⟩), .slice none 0 0] 97)) (fun b => b < w.heap.size) w2.heap.size pb mb ([], []) := by
   refine ⟨.slice none 0 0, .slice none 0 0, ⟨heap_alloc_new _ _, (hp2.mono (Nat.zero_le _)).kpt (Kpt.alloc [] _ _) (fun x _ => by simp), ⟨rfl, .inl ⟨rfl, rfl⟩⟩, (fun h => by cases h), fun x hx => ⟨?_, (fun h => by cases h), ?_⟩, ?_, fun g h => by cases h⟩⟩
   ·have := (hfp x hx).2; omega
   ·have := (hfp x hx).1; omega
   ·omega
  clear hb2 hp2 hfp
  go_wp2_with fail
  refine (putList_cls wCls costC goodC w2.heap.size pb mb (fun x hx => ext_cls hx.1 hx.2) (fun x hx => class_put _ pb mb x hx) a _ _ _ _ _ _ hw3 (fun b hb => by simp; omega) (HR.out.step cP.grow (fun _ h _ => h) (.of_below hB3) hB3.size) HG.out hroom hlen).mono ?_
  intro e w4 hq
  obtain ⟨rfl, hw4, hf4⟩ := hq
  have hB4 : Below w.heap.size w w4 := hB3.trans (hf4.below (fun b hb => hb) hB3.size)
  obtain ⟨sl, bv, hwp⟩ := hw4
  obtain ⟨hlt4, c0, c1, f1⟩ := hwp.cells
  clear hf4
  go_wp2_with fail
  refine (plen_s 0 pb mb sl _ w4 hwp.2.1).mono ?_
  rintro e w' ⟨rfl, rfl⟩
  have hwr : wList wCls a ([], []) = written a := rfl
  by_cases hl : (written a).1.length <= 10000
  ·have hd : decide (10000 < ((wList wCls a ([], [])).1.length : Int)) = false := by rw [hwr]; simp; omega
   have HF : Hid (rightA a = true) := hid (by unfold rightA; rw [hf]; simp [hl])
   have HW := hid hwp
   clear hwp hwr
   go_wp2_with fail
   go_ret2
   refine ⟨hB4, ?_⟩
   rw [if_pos HF.out]
   exact ⟨_, pb, mb, rfl, sl, bv, HW.out⟩
  ·have hd : decide (10000 < ((wList wCls a ([], [])).1.length : Int)) = true := by rw [hwr]; simp; omega
   have HF : Hid (rightA a = false) := hid (by unfold rightA; rw [hf]; simp [hl])
   clear hwp hwr
   go_wp2_with fail
   go_ret2
   refine ⟨hB4, ?_⟩
   rw [if_neg (by rw [HF.out]; decide)]
   rfl
end Go.Proofs.YtijnimjmimeefaaGreat.A
namespace Go.Proofs.YtijnimjmimeefaaGreat.A
open Go.RowKit Go.Proofs.YtijnimjmimeefaaGreat.D Go.Proofs.YtijnimjmimeefaaGreat.O
theorem wp_app_full {w : World} {ops : Array Oper} {rest : List Oper} {o : Oper} {a : Act} {Q : Exit -> Act -> World -> Prop} (hgd : o.guard = none) (s x : Operand)
  (ho : o.op = .call { callee := .builtin .append, args := #[s, x], argTypes := #[26, 26] })
  (g : Addr) (l : List UInt8) (hs : a.eval s = .slice (some g) l.length l.length) (hrl : Rd w (.slice (some g) l.length l.length) l) (vx : Value) (m : List UInt8) (hx : a.eval x = vx) (hrd : Rd w vx m) (hm : m ≠ [])
  (hb : l.length + m.length <= 1000000000)
  (h : ∀ v' w', Own w' w.heap.size v' (l ++ m) -> Below w.heap.size w w' -> wpList Tryz.prog ops Q rest (a.put o.dst v') w') :
  wpList Tryz.prog ops Q (o :: rest) a w := by
 obtain ⟨i0, hi, hz0, hz1, hz2⟩ := info_parts Tryz.infoB
 obtain ⟨p, c, rfl, hle, hn, hc⟩ := hrd
 have hml : 0 < m.length := by
  cases m with
  | nil => exact absurd rfl hm
  | cons b l => simp
 cases p with
 | none =>
  have h0 := hn rfl
  omega
 | some ad =>
  obtain ⟨p', c', e, _, _, hcl⟩ := hrl
  simp only [Value.slice.injEq] at e
  obtain ⟨rfl, _, rfl⟩ := e
  have read : ∀ (l : List UInt8) (q : Addr), (∀ a, some q = some a -> ∀ (j : Nat) (b : UInt8), l[j]? = some b -> w.cell? (a.add j) = some (u8 b)) -> ∀ j u, (l.map u8)[j]? = some u -> w.cell? (q.add j) = some u := by
   intro l q hq j u hj
   rw [List.getElem?_map, Option.map_eq_some_iff] at hj
   obtain ⟨b, hb1, rfl⟩ := hj
   exact hq q rfl j b hb1
  refine wpList_append_grows w hgd s x 26 ho 5 i0 (.int .u8 0) 1 1 Tryz.underlying26 hi hz0 hz1 hz2 rfl (by decide) (some g) l.length l.length (l.map u8) hs (fun h => by cases h) (by simp) (fun b hb j u hj => ?_) ad m.length c (m.map u8) hx (by simp) (read m ad (fun a ha => hc a ha)) (u8_one m) (by omega) (by unfold maxLen; omega) (by omega) ?_
  ·cases hb
   exact read l g (fun a ha => hcl a ha) j u hj
  ·intro v' w' hw hg
   refine h v' w' ?_ ⟨hg.os, hg.tape, hg.output, hg.size, fun k hk => hg.block k hk (by simp)⟩
   unfold Own
   rw [List.length_append, List.map_append]
   exact hw
theorem bon_lit (w : World) (T : TypeId) (fz : Nat × Nat) : Rd (w.alloc (.cells #[.int .u8 66, .int .u8 79, .int .u8 78, .int .u8 49] T fz)) (.slice (some ⟨w.heap.size, 0, none⟩) 4 4) bon := by
 refine ⟨_, _, rfl, by decide, (fun h => by cases h), fun a ha j b hb => ?_⟩
 cases ha
 rw [D.add0, Nat.zero_add]
 match j, hb with
 | 0, hb => cases hb; simp only [World.cell?, World.alloc, Array.getElem?_push_size]; rfl
 | 1, hb => cases hb; simp only [World.cell?, World.alloc, Array.getElem?_push_size]; rfl
 | 2, hb => cases hb; simp only [World.cell?, World.alloc, Array.getElem?_push_size]; rfl
 | 3, hb => cases hb; simp only [World.cell?, World.alloc, Array.getElem?_push_size]; rfl
 | j + 4, hb => simp [bon] at hb
theorem tbs_len1000 : ∀ L : List ByteArray, (∀ s ∈ L, s.size <= 1000) -> (tbs L).length <= L.length * 1010
 | [], _ => by simp [tbs]
 | s :: L, h => by
  have h1 := h s (by simp)
  have h2 := tb_len (s := s) (by omega)
  have ih := tbs_len1000 L (fun x hx => h x (by simp [hx]))
  rw [tbs_cons, List.length_append, List.length_cons, Nat.succ_mul]
  omega
theorem poolB_len {L : List ByteArray} (h : L.length <= 10000) (hs : ∀ s ∈ L, s.size <= 1000) : (poolB L).length <= 10100010 /\ poolB L ≠ [] := by
 have h1 := tbs_len1000 L hs
 have h2 := nb_len10 (v := L.length) (by omega)
 refine ⟨by unfold poolB; rw [List.length_append]; omega, ?_⟩
 have h3 := nb_pos L.length
 unfold poolB
 intro e
 rw [(List.append_eq_nil_iff.1 e).1] at h3
 simp at h3
theorem right_a (a : Arch) (ok : Nat -> Prop) (p : Option Addr) (n cap : Nat) (w : World) (hz : szA a) (hwf : wfA a) (hsm : formedB a = true -> small a) (hg : Glob w) (hr : RdA ok w (.slice p n cap) a) :
  Calls Tryz.prog 14 #[.agg #[.slice p n cap]] w fun e w' => e = .returned (.bool (rightA a)) /\ Below w.heap.size w w' := by
 have hA : Below w.heap.size w (w.alloc (.cells #[.slice p n cap] 24)) := (Below.refl _ w).alloc (Nat.le_refl _) _
 have hg1 := hg.below hA (Nat.le_refl _)
 have HA := hid (hr.any cP.grow hA)
 clear hr
 go_enter Tryz.func14, Tryz.ntmps14
 go_wp2_with fail
 refine (written_any a ok p n cap _ hz hwf hsm hg1 HA.out).mono ?_
 intro e w1 hq
 obtain ⟨hb1, hq⟩ := hq
 have hB := hA.trans (hb1.mono hA.size)
 by_cases hR : rightA a = true
 ·rw [if_pos hR] at hq
  obtain ⟨wb, pb, mb, rfl, -⟩ := hq
  go_wp2_with fail
  go_ret
  exact ⟨ret_bool hR.symm, hB⟩
 ·rw [if_neg hR] at hq
  subst hq
  go_wp2_with fail
  go_ret
  exact ⟨ret_bool (Bool.eq_false_iff.2 hR).symm, hB⟩
theorem put_a (a : Arch) (ok : Nat -> Prop) (p : Option Addr) (n cap : Nat) (w : World) (hz : szA a) (hwf : wfA a) (hsm : formedB a = true -> small a) (hg : Glob w) (hr : RdA ok w (.slice p n cap) a) :
  Calls Tryz.prog 16 #[.agg #[.slice p n cap]] w fun e w' => ∃ v, e = .returned v /\ Own w' w.heap.size v (putA a) /\ Below w.heap.size w w' := by
 have hA : Below w.heap.size w (w.alloc (.cells #[.slice p n cap] 24)) := (Below.refl _ w).alloc (Nat.le_refl _) _
 have hg1 := hg.below hA (Nat.le_refl _)
 have HA := hid (hr.any cP.grow hA)
 clear hr
 go_enter Tryz.func16, Tryz.ntmps16
 go_wp2_with fail
 refine (written_any a ok p n cap _ hz hwf hsm hg1 HA.out).mono ?_
 intro e w1 hq
 obtain ⟨hb1, hq⟩ := hq
 have hB := hA.trans (hb1.mono hA.size)
 by_cases hR : rightA a = true
 ·rw [if_pos hR] at hq
  obtain ⟨wb, pb, mb, rfl, hw⟩ := hq
  obtain ⟨sl, bv, hwp⟩ := hw
  obtain ⟨hlt4, c0, c1, f1⟩ := hwp.cells
  have hrr := hR
  unfold rightA at hrr
  simp only [Bool.and_eq_true, decide_eq_true_eq] at hrr
  obtain ⟨g1, g2, g3⟩ := written_ext hrr.1 hwf
  have hsm' := hsm hrr.1
  unfold small at hsm'
  have hcost : costA a <= 8000000 := hsm'
  obtain ⟨L, hL⟩ : ∃ L, L = (written a).1 := ⟨_, rfl⟩
  obtain ⟨bs, hbs⟩ : ∃ bs, bs = (written a).2 := ⟨_, rfl⟩
  rw [<- hL] at g1 g3 hrr hwp
  rw [<- hbs] at g2 hwp
  have HP : Hid (putA a = bon ++ poolB L ++ bs) := hid (by unfold putA; rw [if_pos hR, hL, hbs])
  have htb := tbs_len1000 L g3
  have hL1 : L.length <= 10000 := hrr.2
  obtain ⟨hpl, hpne⟩ := poolB_len hL1 g3
  have hss : ∀ s ∈ L, s.size <= 10000 := fun s hs => by have := g3 s hs; omega
  have HSS := hid hss
  have hbl : bs.length <= 240000000 := by omega
  have kc := fun (w : World) (C : Array Value) (n c : Nat) => Lib.run_convert_bytes_const (P := Tryz.prog) w 26 5 C n c Tryz.underlying26 Tryz.underlying5
  have HW := hid hwp
  clear hwp hL hbs hrr g3 hss
  go_wp2_with fail
  obtain ⟨wM, hM⟩ : ∃ wM, wM = w1.alloc (.cells #[.int .u8 66, .int .u8 79, .int .u8 78, .int .u8 49] 5 (4, 5)) := ⟨_, rfl⟩
  have hbM : Below w1.heap.size w1 wM := by rw [hM]; exact (Below.refl _ _).alloc (Nat.le_refl _) _
  have hrM : Rd wM (.slice (some ⟨w1.heap.size, 0, none⟩) 4 4) bon := by rw [hM]; exact bon_lit _ _ _
  have hltM : w1.heap.size < wM.heap.size := by rw [hM]; simp
  rw [<- hM]
  have hWM := HW.out.kpt (.of_below hbM : Kpt [] w1 wM) (fun _ _ => by simp) (fun x hx => .inl hx)
  have HWM := hid hWM
  refine (pbytes_any 0 pb mb sl L _ hWM.2.1 (by omega) HSS.out (by omega)).mono ?_
  rintro e w2 ⟨v2, rfl, ho2, hb2⟩
  obtain ⟨a2, n2, k2, hv2⟩ := own_slice ho2
  subst hv2
  have HR2 := hid (hrM.below hb2 (.inr (fun g hg => by cases hg; exact hltM)))
  have HW2 := hid (HWM.out.kpt (.of_below hb2 : Kpt [] wM w2) (fun _ _ => by simp) (fun x hx => .inl hx))
  have HO2 := hid ho2.rd
  have hB2 := hB.trans ((hbM.mono hB.size).trans (hb2.mono (Nat.le_trans hB.size hbM.size)))
  clear hWM ho2 hrM hM hbM c0 c1 f1
  go_wp2_with (at_builtin; refine wp_app_full rfl _ _ rfl ⟨w1.heap.size, 0, none⟩ bon rfl HR2.out _ (poolB L) rfl HO2.out hpne (by simp [bon]; omega) ?_)
  intro v3 w3 ho3 hb3
  obtain ⟨a3, n3, k3, hv3⟩ := own_slice ho3
  subst hv3
  have hW3 := HW2.out.kpt (.of_below hb3 : Kpt [] w2 w3) (fun _ _ => by simp) (fun x hx => .inl hx)
  obtain ⟨hlt5, c0, c1, f1⟩ := hW3.cells
  have HO3 := hid ho3
  have HBV := hid hW3.2.2.1.rd
  have hB3 := hB2.trans (hb3.mono hB2.size)
  clear hW3 ho3
  go_wp2_with (at_builtin; refine wp_app rfl _ _ rfl w2.heap.size _ (bon ++ poolB L) rfl HO3.out _ bs rfl HBV.out (by rw [List.length_append]; simp [bon]; omega) hb3.size ?_)
  intro v4 w4 ho4 hg4 _
  have hB4 : Below w.heap.size w w4 := hB3.trans ⟨hg4.os, hg4.tape, hg4.output, hg4.size, fun k hk => hg4.block k (Nat.lt_of_lt_of_le hk hB3.size) (fun e => by have := (HO3.out.lt k e.symm).1; have := hB2.size; omega)⟩
  have HO4 := hid (ho4.mono hB2.size)
  obtain ⟨a4, n4, k4, hv4⟩ := own_slice ho4
  subst hv4
  clear ho4 hg4
  go_wp2_with fail
  go_ret
  exact ⟨_, rfl, by rw [HP.out]; exact HO4.out, hB4⟩
 ·rw [if_neg hR] at hq
  subst hq
  have HP : Hid (putA a = []) := hid (by unfold putA; rw [if_neg hR])
  go_wp2_with fail
  go_ret
  exact ⟨_, rfl, by rw [HP.out]; exact ⟨rfl, .inl ⟨rfl, rfl⟩⟩, hB⟩
end Go.Proofs.YtijnimjmimeefaaGreat.A
namespace Go.Proofs.YtijnimjmimeefaaGreat.A
open Go.RowKit Go.Proofs.YtijnimjmimeefaaGreat.D Go.Proofs.YtijnimjmimeefaaGreat.O
theorem textR_k {bs l : List UInt8} {k e m k' e' : Nat} (hk : k <= bs.length) (he : e < 100) (h : textR bs k e m = (l, k', e')) : k' <= bs.length := by
 rcases hN : numR bs k e m with ⟨v, k1, e1⟩
 have hf := numR_le hk he hN
 rw [textR_num hN] at h
 by_cases h0 : e1 = 0
 ·rw [if_pos h0] at h
  by_cases h1 : bs.length - k1 < v
  ·rw [if_pos h1] at h
   simp only [Prod.mk.injEq] at h
   omega
  ·rw [if_neg h1] at h
   simp only [Prod.mk.injEq] at h
   omega
 ·rw [if_neg h0] at h
  simp only [Prod.mk.injEq] at h
  omega
theorem textsR_le (bs : List UInt8) : ∀ (n k e : Nat), k <= bs.length -> e < 100 -> (textsR bs n k e).1.length <= n /\ (∀ s ∈ (textsR bs n k e).1, s.size <= 1000) /\ (textsR bs n k e).2.2 < 100
 | 0, k, e, _, he => ⟨by simp [textsR], fun s h => by simp [textsR] at h, he⟩
 | n + 1, k, e, hk, he => by
  by_cases h0 : e = 0
  ·subst h0
   rcases hT : textR bs k 0 1000 with ⟨l, k', e'⟩
   have h1 := textR_le hk he hT
   have ih := textsR_le bs n k' e' (textR_k hk he hT) h1.2
   rw [textsR_more hT]
   refine ⟨by simp only [List.length_cons]; omega, fun s hs => ?_, ih.2.2⟩
   rcases List.mem_cons.1 hs with h | h
   ·rw [h, tx_size]; exact h1.1
   ·exact ih.2.1 s h
  ·rw [textsR_stop h0]
   exact ⟨by simp, fun s h => by simp at h, he⟩
theorem poolR_le {bs : List UInt8} {k e : Nat} {L : List ByteArray} {k' e' : Nat} (hk : k <= bs.length) (he : e < 100) (h : poolR bs k e = (L, k', e')) : L.length <= 10000 /\ (∀ s ∈ L, s.size <= 1000) /\ e' < 100 := by
 rcases hN : numR bs k e 10000 with ⟨n, k1, e1⟩
 have hf := numR_le hk he hN
 rw [poolR_num hN] at h
 have := textsR_le bs n k1 e1 hf.2.1 hf.2.2
 rw [h] at this
 exact ⟨Nat.le_trans this.1 hf.1, this.2.1, this.2.2⟩
def CsmK {α : Type} (p : Ps α) (c : α -> Nat) (k : Nat) : Prop := ∀ l x r, p l = .ok (x, r) -> c x + 8 * r.length <= 8 * l.length + k
theorem CsmK.pr {α : Type} {x : α} {c : α -> Nat} {k : Nat} (h : c x <= k) : CsmK (A.pr x) c k := by
 intro l y r e
 simp only [A.pr, Except.ok.injEq, Prod.mk.injEq] at e
 obtain ⟨rfl, rfl⟩ := e
 omega
theorem CsmK.pb {α β : Type} {p : Ps α} {q : α -> Ps β} {a : α -> Nat} {c : β -> Nat} {k : Nat} (h1 : CsmK p a 0) (h2 : ∀ x, CsmK (q x) c (k + a x)) : CsmK (A.pb p q) c k := by
 intro l y r e
 unfold A.pb at e
 cases hp : p l with
 | error x => rw [hp] at e; cases e
 | ok v =>
  obtain ⟨x, s⟩ := v
  rw [hp] at e
  have g1 := h1 l x s hp
  have g2 := h2 x s y r e
  omega
theorem CsmK.more {α : Type} {p : Ps α} {c d : α -> Nat} {k j : Nat} (h : CsmK p c k) (hd : ∀ x, d x + k <= c x + j) : CsmK p d j := by
 intro l x r e
 have := h l x r e
 have := hd x
 omega
theorem dec_pos (m : Nat) : ∀ (l : List UInt8) (i v : Nat), (dec m l i v).2.2 = 0 -> 1 <= (dec m l i v).2.1 /\ (dec m l i v).2.1 <= i + l.length
 | [], i, v, h => by
  unfold dec at h
  by_cases h9 : i < 9 <;> simp [h9] at h
 | c :: l, i, v, h => by
  unfold dec at h ⊢
  by_cases h9 : i = 9
  ·simp [h9] at h
  ·rw [if_neg h9] at h ⊢
   by_cases hc : c.toNat < 128
   ·rw [if_pos hc] at h ⊢
    unfold wholeR at h ⊢
    split at h
    ·simp at h
    ·rename_i h1
     rw [if_neg h1]
     split at h
     ·simp at h
     ·rename_i h2
      rw [if_neg h2]
      simp
   ·rw [if_neg hc] at h ⊢
    have ih := dec_pos m l (i + 1) _ h
    refine ⟨ih.1, ?_⟩
    have := ih.2
    simp only [List.length_cons]
    omega
theorem csm_num (m : Nat) : CsmK (pNum m) (fun _ => 8) 0 := by
 intro l x r e
 unfold pNum at e
 by_cases h : (dec m l 0 0).2.2 = 0
 ·rw [if_pos h] at e
  simp only [Except.ok.injEq, Prod.mk.injEq] at e
  obtain ⟨-, rfl⟩ := e
  have := dec_pos m l 0 0 h
  rw [List.length_drop]
  show 8 + _ <= _
  omega
 ·rw [if_neg h] at e
  cases e
theorem csm_text (L : List ByteArray) : CsmK (pText L) (fun _ => 16) 0 := by
 intro l x r e
 match l, e with
 | [], e => simp [pText] at e
 | [a], e => simp [pText] at e
 | a :: b :: l, e =>
  unfold pText at e
  dsimp only at e
  split at e
  ·cases e
  ·simp only [Except.ok.injEq, Prod.mk.injEq] at e
   obtain ⟨-, rfl⟩ := e
   simp only [List.length_cons]
   show 16 + _ <= _
   omega
theorem csm_many {α : Type} {p : Ps α} {a : α -> Nat} (h : CsmK p a 0) : ∀ n, CsmK (pMany p n) (fun xs => (xs.map a).sum) 0
 | 0 => CsmK.pr (by simp)
 | n + 1 => CsmK.pb h (fun x => CsmK.pb (csm_many h n) (fun xs => CsmK.pr (by simp)))
theorem csm_list {α : Type} {p : Ps α} {a : α -> Nat} (m : Nat) (h : CsmK p a 0) : CsmK (pList m p) (fun xs => 8 + (xs.map a).sum) 0 :=
 CsmK.pb (csm_num m) (fun n => (csm_many h n).more (fun xs => by omega))
theorem csm_fld (L : List ByteArray) : CsmK (pFld L) (fun _ => 40) 0 :=
 CsmK.pb (csm_text L) fun _ => CsmK.pb (csm_text L) fun _ => CsmK.pb (csm_num 1) fun _ => CsmK.pr (by omega)
theorem csm_hnd (L : List ByteArray) : CsmK (pHnd L) (fun _ => 40) 0 :=
 CsmK.pb (csm_num _) fun _ => CsmK.pb (csm_num _) fun _ => CsmK.pb (csm_num _) fun _ => CsmK.pb (csm_text L) fun _ => CsmK.pr (by omega)
theorem csm_ins (L : List ByteArray) : CsmK (pIns L) (fun _ => 8) 0 := by
 refine CsmK.pb (csm_num _) fun o => ?_
 unfold pUse
 repeat' split
 ·exact CsmK.pb (CsmK.pb (csm_num _) (fun _ => CsmK.pr (c := fun _ => 0) (by omega))) fun _ => CsmK.pr (by omega)
 ·exact CsmK.pb (csm_text L) fun _ => CsmK.pr (by omega)
 ·exact CsmK.pb (csm_num _) fun _ => CsmK.pr (by omega)
 ·exact CsmK.pb (csm_text L) fun _ => CsmK.pb (csm_text L) fun _ => CsmK.pr (by omega)
 ·exact CsmK.pb (csm_text L) fun _ => CsmK.pb (csm_text L) fun _ => CsmK.pb (csm_text L) fun _ => CsmK.pr (by omega)
 ·exact CsmK.pb (csm_text L) fun _ => CsmK.pr (by omega)
 ·exact CsmK.pr (by omega)
theorem csm_mth (L : List ByteArray) : CsmK (pMth L) costM 0 := by
 refine CsmK.pb (csm_text L) fun n => CsmK.pb (csm_text L) fun d => CsmK.pb (csm_num _) fun f => CsmK.pb (csm_num _) fun lo => CsmK.pb (csm_list _ (csm_ins L)) fun c => CsmK.pb (csm_list _ (csm_hnd L)) fun h => CsmK.pr ?_
 rw [sum_const, sum_const]
 unfold costM
 dsimp only
 omega
theorem csm_cls (L : List ByteArray) : CsmK (pCls L) costC 0 := by
 refine CsmK.pb (csm_text L) fun n => CsmK.pb (csm_text L) fun s => CsmK.pb (csm_list _ (csm_text L)) fun i => CsmK.pb (csm_num _) fun k => CsmK.pb (csm_list _ (csm_fld L)) fun f => CsmK.pb (csm_list _ (csm_mth L)) fun m => CsmK.pr ?_
 rw [sum_const, sum_const]
 unfold costC
 dsimp only
 omega
theorem csm_arc (L : List ByteArray) : CsmK (pArc L) costA 0 := (csm_list 400 (csm_cls L)).more (fun a => by unfold costA; omega)
theorem arc_cost {L : List ByteArray} {l r : List UInt8} {a : Arch} (h : pArc L l = .ok (a, r)) : costA a <= 8 * l.length := by
 have := csm_arc L l a r h
 omega
end Go.Proofs.YtijnimjmimeefaaGreat.A
namespace Go.Proofs
open Go.Shelf
def Tryz.lays193_ren : Go.Shelf.Ren := ⟨fun | 193 => 84 | n => n, fun | 31 => 48 | 9 => 9 | 4 => 4 | 3 => 3 | 0 => 0 | n => n, fun | n => n⟩
theorem Tryz.lays193 : Go.Proofs.Lays.n193 Tryz.prog Tryz.lays193_ren := {
 mixed := by kernel_rfl
 f193 := Tryz.func84.trans (congrArg some (by kernel_rfl))
 t0 := Tryz.underlying0
 a0 := Tryz.isAgg0
 z0 := Tryz.sizeOf0
 v0 := Tryz.zeroValue0
 t3 := Tryz.underlying3
 a3 := Tryz.isAgg3
 z3 := Tryz.sizeOf3
 v3 := Tryz.zeroValue3
 t4 := Tryz.underlying4
 a4 := Tryz.isAgg4
 z4 := Tryz.sizeOf4
 v4 := Tryz.zeroValue4
 t9 := Tryz.underlying9
 a9 := Tryz.isAgg9
 z9 := Tryz.sizeOf9
 v9 := Tryz.zeroValue9
 t31 := Tryz.underlying48
 a31 := Tryz.isAgg48
 z31 := Tryz.sizeOf48
 v31 := Tryz.zeroValue48 }
open Go.RowKit Go.Lib in
theorem Tryz.slices_Equal_string (b1 o1 n c b2 o2 m d : Nat) (xs ys : List ByteArray) (w : World) (hx : n <= xs.length) (hy : m <= ys.length) (hbig : n <= 9223372036854775807) (hbig2 : m <= 9223372036854775807) (hc1 : ∀ j, j < xs.length -> w.cell? ⟨b1, o1 + j, none⟩ = some (.string (xs.getD j ByteArray.empty))) (hc2 : ∀ j, j < ys.length -> w.cell? ⟨b2, o2 + j, none⟩ = some (.string (ys.getD j ByteArray.empty))) :
  Calls Tryz.prog 84 #[.slice (some ⟨b1, o1, none⟩) n c, .slice (some ⟨b2, o2, none⟩) m d] w fun e w' => e = .returned (.bool (decide (xs.take n = ys.take m))) /\ ∃ q, w' = w.drewN q := Any.slices_Equal_string Tryz.lays193 b1 o1 n c b2 o2 m d xs ys w hx hy hbig hbig2 hc1 hc2
open Go.RowKit Go.Lib in
theorem Tryz.slices_Equal_string_empty (a1 a2 : Option Addr) (c m d : Nat) (w : World) (hbig2 : m <= 9223372036854775807) :
  Calls Tryz.prog 84 #[.slice a1 0 c, .slice a2 m d] w fun e w' => e = .returned (.bool (decide (m = 0))) /\ w' = w := Any.slices_Equal_string_empty Tryz.lays193 a1 a2 c m d w hbig2
open Go.RowKit Go.Lib in
theorem Tryz.slices_Equal_string_lens (a1 a2 : Option Addr) (n c m d : Nat) (w : World) (hnm : n ≠ m) :
  Calls Tryz.prog 84 #[.slice a1 n c, .slice a2 m d] w fun e w' => e = .returned (.bool false) /\ w' = w := Any.slices_Equal_string_lens Tryz.lays193 a1 a2 n c m d w hnm
def Tryz.laysnb141_ren : Go.Shelf.Ren := ⟨fun | 141 => 49 | 116 => 92 | 115 => 136 | n => n, fun | 37 => 26 | 4 => 4 | 3 => 3 | 9 => 9 | 5 => 5 | n => n, fun | n => n⟩
theorem Tryz.laysnb141 : Go.Proofs.Lays.nb141 Tryz.prog Tryz.laysnb141_ren := {
 mixed := by kernel_rfl
 f115 := Tryz.func136.trans (congrArg some (by kernel_rfl))
 f116 := Tryz.func92.trans (congrArg some (by kernel_rfl))
 f141 := Tryz.func49.trans (congrArg some (by kernel_rfl))
 t3 := Tryz.underlying3
 a3 := Tryz.isAgg3
 z3 := Tryz.sizeOf3
 v3 := Tryz.zeroValue3
 t4 := Tryz.underlying4
 a4 := Tryz.isAgg4
 z4 := Tryz.sizeOf4
 v4 := Tryz.zeroValue4
 t9 := Tryz.underlying9
 a9 := Tryz.isAgg9
 z9 := Tryz.sizeOf9
 v9 := Tryz.zeroValue9
 t37 := Tryz.underlying26
 a37 := Tryz.isAgg26
 z37 := Tryz.sizeOf26
 v37 := Tryz.zeroValue26
 t5 := Tryz.underlying5
 a5 := Tryz.isAgg5
 z5 := Tryz.sizeOf5
 v5 := Tryz.zeroValue5 }
theorem Tryz.bytes_CutPrefix_all (p1 p2 : Option Addr) (n c m d : Nat) (xs ys : List Int) (w : World) (hx : xs.length = n) (hy : ys.length = m) (hnc : n <= c) (h1 : Lib.BytesIn w p1 n xs) (h2 : Lib.BytesIn w p2 m ys) :
  Calls Tryz.prog 49 #[.slice p1 n c, .slice p2 m d] w fun e w' => e = .returned (.tuple #[Lib.trimPrefixV p1 n c xs ys, .bool (Lib.hasPrefix (Lib.bytesOf xs) (Lib.bytesOf ys))]) /\ w' = w := Any.bytes_CutPrefix_all Tryz.laysnb141 p1 p2 n c m d xs ys w hx hy hnc h1 h2
end Go.Proofs
namespace Go.Proofs.YtijnimjmimeefaaGreat.A
open Go.RowKit Go.Proofs.YtijnimjmimeefaaGreat.D Go.Proofs.YtijnimjmimeefaaGreat.O
theorem rd_own {w : World} {v : Value} {l : List UInt8} (h : Rd w v l) : l = [] ∨ ∀ g, v.ownBlock = some g -> g < w.heap.size := by
 obtain ⟨p, c, rfl, h1, h2, h3⟩ := h
 cases l with
 | nil => exact .inl rfl
 | cons x l =>
  right
  intro g hg
  cases p with
  | none => cases hg
  | some a =>
   have := World.block_lt_of_cell? _ _ (h3 a rfl 0 x rfl)
   cases hg
   exact this
theorem bytesOf_nat (l : List UInt8) : Lib.bytesOf (l.map fun b => (b.toNat : Int)) = l := by
 unfold Lib.bytesOf
 rw [List.map_map]
 conv => rhs; rw [<- List.map_id l]
 refine List.map_congr_left fun b _ => ?_
 simp
theorem bytesIn_rd {w : World} {p : Option Addr} {n c : Nat} {l : List UInt8} (h : Rd w (.slice p n c) l) : Lib.BytesIn w p n (l.map fun b => (b.toNat : Int)) := by
 obtain ⟨q, k, e, h1, h2, h3⟩ := h
 simp only [Value.slice.injEq] at e
 obtain ⟨rfl, rfl, rfl⟩ := e
 cases p with
 | none =>
  have := h2 rfl
  have h0 : l.length = 0 := by omega
  rw [h0]
  exact Lib.BytesIn.nil _ _ _
 | some a =>
  refine Lib.BytesIn.of_cells fun i hi => ?_
  rw [h3 a rfl i _ (List.getElem?_eq_getElem hi), List.getD_eq_getElem?_getD, List.getElem?_map, List.getElem?_eq_getElem hi]
  rfl
theorem cut_any (v : Value) (l : List UInt8) (g : Nat) (w : World) (hr : Rd w v l) (hb : Rd w (.slice (some ⟨g, 0, none⟩) 4 4) bon) :
  Calls Tryz.prog 49 #[v, .slice (some ⟨g, 0, none⟩) 4 4] w fun e w' => ∃ v', e = .returned (.tuple #[v', .bool (bon.isPrefixOf l)]) /\ (bon.isPrefixOf l = true -> Rd w v' (l.drop 4)) /\ w' = w /\ ∃ p n c, v' = .slice p n c := by
 obtain ⟨p, c, rfl, h1, h2, h3⟩ := id hr
 refine (Tryz.bytes_CutPrefix_all p (some ⟨g, 0, none⟩) l.length c 4 4 (l.map fun b => (b.toNat : Int)) (bon.map fun b => (b.toNat : Int)) w (by simp) rfl h1 (bytesIn_rd hr) (bytesIn_rd hb)).mono ?_
 rintro e w' ⟨rfl, rfl⟩
 rw [bytesOf_nat, bytesOf_nat]
 refine ⟨_, rfl, fun hp => ?_, rfl, ?_⟩
 ·replace hp : bon.isPrefixOf l = true := hp
  obtain ⟨t, ht⟩ := List.isPrefixOf_iff_prefix.1 hp
  have hl : l.length = 4 + t.length := by rw [<- ht]; simp [bon]; omega
  cases p with
  | none => have := h2 rfl; omega
  | some a =>
   obtain ⟨b, o, s⟩ := a
   have hs : s = none := by
    have hx := World.cell?_spot (h3 _ rfl 0 _ (List.getElem?_eq_getElem (by omega)))
    simpa [Addr.add] using hx
   subst hs
   have e1 : Lib.trimPrefixV (some ⟨b, o, none⟩) l.length c (l.map fun b => (b.toNat : Int)) (bon.map fun b => (b.toNat : Int)) = Lib.sliceFrom b o l.length c 4 := by
    show Lib.bytesTrimPrefix b o l.length c _ _ = _
    unfold Lib.bytesTrimPrefix
    rw [bytesOf_nat, bytesOf_nat, if_pos (show Lib.hasPrefix l bon = true from hp)]
    rfl
   rw [e1]
   unfold Lib.sliceFrom
   refine ⟨_, _, by rw [List.length_drop], by rw [List.length_drop]; omega, (fun h => by split at h <;> cases h), fun a ha i x hx => ?_⟩
   have hi : i < t.length := by
    have := (List.getElem?_eq_some_iff.1 hx).1
    rw [List.length_drop] at this
    omega
   rw [if_neg (by omega)] at ha
   cases ha
   rw [List.getElem?_drop] at hx
   have := h3 _ rfl (4 + i) x hx
   rw [Go.WideShapes.add_plain] at this ⊢
   rw [show o + 4 + i = o + (4 + i) by omega]
   exact this
 ·unfold Lib.trimPrefixV
  split
  ·unfold Lib.bytesTrimPrefix
   split
   ·exact ⟨_, _, _, rfl⟩
   ·exact ⟨_, _, _, rfl⟩
  ·exact ⟨_, _, _, rfl⟩
def ReadAnsA (bs : List UInt8) (w : World) (e : Ending) (w' : World) : Prop :=
 Below w.heap.size w w' /\ match readA bs with
 | .ok a => ∃ p n c, e = .returned (.tuple #[.agg #[.slice p n c], .int .i64 0]) /\ RdX 6 cP (fun b => w.heap.size <= b) w' (.slice p n c) a /\ szA a /\ wfA a
 | .error x => e = .returned (.tuple #[.agg #[.slice none 0 0], .int .i64 (x : Nat)])
theorem readA_pool {bs : List UInt8} {x : Nat} (h1 : bon.isPrefixOf bs = true) (h2 : pPool (bs.drop 4) = .error x) : readA bs = .error x := by
 unfold readA; rw [if_pos h1, h2]
theorem readA_arc {bs l : List UInt8} {L : List ByteArray} {x : Nat} (h1 : bon.isPrefixOf bs = true) (h2 : pPool (bs.drop 4) = .ok (L, l)) (h3 : pArc L l = .error x) : readA bs = .error x := by
 unfold readA; rw [if_pos h1, h2]; dsimp only; rw [h3]
theorem readA_fin {bs l r : List UInt8} {L : List ByteArray} {a : Arch} (h1 : bon.isPrefixOf bs = true) (h2 : pPool (bs.drop 4) = .ok (L, l)) (h3 : pArc L l = .ok (a, r)) : readA bs = if r = [] /\ rightA a = true then .ok a else .error 21 := by
 unfold readA; rw [if_pos h1, h2]; dsimp only; rw [h3]
theorem took_error {α : Type} {p : Ps α} {l : List UInt8} {x : α} {e : Nat} (h : Took (adv p (.ok l)) x (.error e)) : p l = .error e := by
 unfold adv Took at h
 dsimp only at h
 cases hp : p l with
 | error y => rw [hp] at h; dsimp only at h; cases h; rfl
 | ok v => obtain ⟨y, r⟩ := v; rw [hp] at h; dsimp only at h; cases h.2
theorem took_ok {α : Type} {p : Ps α} {l r : List UInt8} {x : α} (h : Took (adv p (.ok l)) x (.ok r)) : p l = .ok (x, r) := by
 unfold adv Took at h
 dsimp only at h
 cases hp : p l with
 | error y => rw [hp] at h; dsimp only at h; cases h
 | ok v =>
  obtain ⟨y, s⟩ := v
  rw [hp] at h
  dsimp only at h
  obtain ⟨rfl, h2⟩ := h
  cases h2
  rfl
theorem cell1 {w : World} {b : Nat} {u : Value} {T : TypeId} (h : w.heap[b]? = some (.cells #[u] T (0, 0))) : b < w.heap.size /\ w.cell? ⟨b, 0, none⟩ = some u /\ w.frozen? ⟨b, 0, none⟩ = false := by
 refine ⟨(Array.getElem?_eq_some_iff.1 h).1, ?_, ?_⟩
 ·simp [World.cell?, h]
 ·simp [World.frozen?, h]
theorem set_below {w : World} {B b : Nat} {u : Value} (h : B <= b) (hB : B <= w.heap.size) : Below B w (w.setCell ⟨b, 0, none⟩ u) := (Kpt.set [b] w b 0 u (by simp)).below (fun x hx => by simp at hx; omega) hB
theorem read_a (v : Value) (bs : List UInt8) (w : World) (hr : Rd w v bs) (hl : bs.length <= 1000000) (hg : Glob w) :
  Calls Tryz.prog 22 #[v] w (ReadAnsA bs w) := by
 obtain ⟨p, cap, rfl, hcap, hn0, hc0⟩ := id hr
 have hA : Below w.heap.size w (w.alloc (.cells #[.slice none 0 0] 24)) := (Below.refl _ w).alloc (Nat.le_refl _) _
 have hs1 : (w.alloc (.cells #[.slice none 0 0] 24)).heap.size = w.heap.size + 1 := by simp
 have kc := Lib.run_convert_bytes_const (P := Tryz.prog) (w.alloc (.cells #[.slice none 0 0] 24)) 26 5 #[.int .u8 66, .int .u8 79, .int .u8 78, .int .u8 49] 4 4 Tryz.underlying26 Tryz.underlying5
 rw [hs1] at kc
 have hx0 : (w.alloc (.cells #[.slice none 0 0] 24)).heap[w.heap.size]? = some (.cells #[.slice none 0 0] 24 (0, 0)) := by simp only [World.alloc, Array.getElem?_push_size]
 have HX0 := hid hx0
 have HR := hid hr
 clear hr hc0 hn0 hx0
 go_enter Tryz.func22, Tryz.ntmps22
 go_wp2_with fail
 obtain ⟨wM, hM⟩ : ∃ wM, wM = (w.alloc (.cells #[.slice none 0 0] 24)).alloc (.cells #[.int .u8 66, .int .u8 79, .int .u8 78, .int .u8 49] 5 (4, 5)) := ⟨_, rfl⟩
 have hbM : Below (w.alloc (.cells #[.slice none 0 0] 24)).heap.size (w.alloc (.cells #[.slice none 0 0] 24)) wM := by rw [hM]; exact (Below.refl _ _).alloc (Nat.le_refl _) _
 have hrM : Rd wM (.slice (some ⟨w.heap.size + 1, 0, none⟩) 4 4) bon := by rw [hM, <- hs1]; exact bon_lit _ _ _
 have hBM : Below w.heap.size w wM := hA.trans (hbM.mono (by rw [hs1]; omega))
 have hszM : wM.heap.size = w.heap.size + 2 := by rw [hM]; simp
 have HXM : Hid (wM.heap[w.heap.size]? = some (.cells #[.slice none 0 0] 24 (0, 0))) := hid (by rw [hbM.block w.heap.size (by rw [hs1]; omega)]; exact HX0.out)
 have HRM := hid (HR.out.below hBM (rd_own HR.out))
 rw [<- hM]
 have HB := hid hrM
 clear kc hM hbM hrM hs1 HR HX0 hA
 refine (cut_any _ bs (w.heap.size + 1) wM HRM.out HB.out).mono ?_
 rintro e w1 ⟨v1, rfl, hv1, rfl, p1, n1, c1, rfl⟩
 have hlt1 : w.heap.size < w1.heap.size := by omega
 have hc0 : w1.cell? ⟨w.heap.size, 0, none⟩ = some (.slice none 0 0) := by simp [World.cell?, HXM.out]
 have hf0 : w1.frozen? ⟨w.heap.size, 0, none⟩ = false := by simp [World.frozen?, HXM.out]
 have HV := hid hv1
 clear hv1 HRM HB
 cases hpre : bon.isPrefixOf bs with
 | false =>
  have HF : Hid (readA bs = .error 21) := hid (by unfold readA; rw [if_neg (by simp [hpre])])
  have hbS : Below w.heap.size w1 (w1.setCell ⟨w.heap.size, 0, none⟩ (.slice none 0 0)) := (Kpt.set [w.heap.size] w1 w.heap.size 0 _ (by simp)).below (fun x hx => by simp at hx; omega) (by omega)
  clear HXM hpre
  go_wp2_with fail
  refine bodyPost_ret (v := .tuple #[.agg #[.slice none 0 0], .int .i64 21]) (by simp [results, Tryz.results22, go_sem, hc0]) rfl ⟨?_, by rw [HF.out]; rfl⟩
  exact hBM.trans hbS
 | true =>
  have hrd := HV.out hpre
  obtain ⟨bs', hbs⟩ : ∃ l, l = bs.drop 4 := ⟨_, rfl⟩
  rw [<- hbs] at hrd
  have hl' : bs'.length <= 1000000 := by rw [hbs, List.length_drop]; omega
  have HN := hid hrd
  clear hrd HV
  go_wp2_with fail
  refine (new_any _ bs' w1 HN.out (rd_own HN.out) (by omega)).mono ?_
  rintro e w2 ⟨rb, rfl, hrd2, hb2⟩
  rcases hP : poolR bs' 0 0 with ⟨L, kF, eF⟩
  obtain ⟨pl1, pl2, pl3⟩ := poolR_le (Nat.zero_le _) (by decide) hP
  obtain ⟨pp1, pp2⟩ := pPool_of hP
  have hR2 := hrd2.1
  have HRD := hid hrd2
  have HPL2 := hid pl2
  have HPP1 := hid pp1
  have HPP2 := hid pp2
  have HHP := hid hP
  clear hrd2 pl2 pp1 pp2 hP HN
  go_wp2_with fail
  refine (pread_any w1.heap.size rb bs' 0 0 L kF eF w2 HHP.out HRD.out (by decide) (by omega)).mono ?_
  rintro e w3 ⟨ha3, hr3, hk3⟩
  have hz2 := hb2.size
  have hz3 := hk3.size
  have hB3 : Below w.heap.size w w3 := (hBM.trans (hb2.mono (by omega))).trans (hk3.below (fun x hx => by simp at hx; omega) (by omega))
  have HX3 : Hid (w3.heap[w.heap.size]? = some (.cells #[.slice none 0 0] 24 (0, 0))) := hid (by
   rw [hk3.2 _ (by omega) (by simp; omega), hb2.block _ hlt1]
   exact HXM.out)
  obtain ⟨q3, c3, f3⟩ := cell1 HX3.out
  have HPRE := hid hpre
  clear hc0 hf0 HXM hpre
  by_cases he : eF = 0
  ·subst he
   unfold ReadAns at ha3
   rw [if_pos rfl] at ha3
   obtain ⟨pb, mb, sl, rfl, hpl⟩ := ha3
   have hfp := hpl.lt
   have hrlt : rb < w2.heap.size := (Array.getElem?_eq_some_iff.1 HRD.out.2.2.choose_spec.1).1
   obtain ⟨w4, hw4⟩ : ∃ w4, w4 = w3.alloc (.cells #[.pointer (some ⟨rb, 0, none⟩), .pointer (some ⟨pb, 0, none⟩), .bool false] 119) := ⟨_, rfl⟩
   have hb4 : Below w3.heap.size w3 w4 := by rw [hw4]; exact (Below.refl _ _).alloc (Nat.le_refl _) _
   have hs4 : w4.heap.size = w3.heap.size + 1 := by rw [hw4]; simp
   have hx4 : w4.heap[w3.heap.size]? = some (.cells #[.pointer (some ⟨rb, 0, none⟩), .pointer (some ⟨pb, 0, none⟩), .bool false] 119 (0, 0)) := by rw [hw4]; simp only [World.alloc, Array.getElem?_push_size]
   obtain ⟨C, hC⟩ : ∃ C : Cx, C = ⟨w1.heap.size, rb, w3.heap.size, pb, mb, sl, L, bs', w3.heap.size + 1⟩ := ⟨_, rfl⟩
   have hsrc : Src w4 C (.ok (bs'.drop kF)) := by
    subst hC
    refine ⟨⟨kF, 0, false, hr3.kpt (.of_below hb4 : Kpt [] w3 w4) (fun _ _ _ => by simp), by decide, hx4, rfl, rfl, rfl⟩, (hpl.kpt (.of_below hb4 : Kpt [] w3 w4) (fun _ _ => by simp)).mono (Nat.zero_le _), (show rb < w3.heap.size by omega), (show w3.heap.size < w3.heap.size + 1 by omega), fun x hx => ?_, (show bs'.length <= 30000000 by omega), (show L.length <= 10000 by omega), HPL2.out, (show w3.heap.size + 1 <= w4.heap.size by omega)⟩
    have := hfp x hx
    refine ⟨?_, ?_, ?_⟩ <;> dsimp only <;> omega
   have hsb : C.sb = w3.heap.size := by rw [hC]
   have HSB := hid hsb
   have hCL : C.L = L := by rw [hC]
   have hCbs : C.bs = bs' := by rw [hC]
   have HCL := hid hCL
   have HCB := hid hCbs
   have hCr : C.rb = rb := by rw [hC]
   have HCR := hid hCr
   have hCt : C.top = w3.heap.size + 1 := by rw [hC]
   have hB0 : 0 < C.B := by rw [hC]; show 0 < w1.heap.size; omega
   have hB4 : Below w.heap.size w w4 := hB3.trans (hb4.mono hB3.size)
   have hg4 : Glob w4 := hg.below hB4 (Nat.le_refl _)
   have HSRC := hid hsrc
   have HB3 := hid hB3
   have HB4 := hid hB4
   have HW4 := hid hb4
   have HBS := hid hs4
   have HQ := hid (And.intro q3 (And.intro hz2 (And.intro hz3 (And.intro hszM (And.intro hlt1 hrlt)))))
   have HR2 := hid hR2
   have HHL := hid hl'
   have HPP := hid (HPP1.out rfl)
   clear hx4 hfp hpl hr3 hk3 hsrc hCL hCr hCt hCbs hs4 hb4 hB3 hB4 hz2 hz3 hszM hlt1 hrlt hR2 hl' pl1 pl3 HPP1 HPP2 hb2 hBM HPL2 c3 f3 q3 hC
   go_wp2_with fail
   rw [<- hw4, <- HSB.out]
   clear hsb hw4
   refine (list_cls C (fun s w h g => class_s C hB0 s w h g) _ 400 w4 HSRC.out hg4 hB0 (by decide)).mono ?_
   rintro e w5 ⟨v5, a, s5, rfl, ho5, hgd5, hn5, t5, hs5, hf5⟩
   obtain ⟨p5, n5, c5, hv5⟩ := ho5.slice
   subst hv5
   have HO5 := hid ho5
   have HT5 := hid t5
   have HS5 := hid hs5
   have HG5 := hid hgd5
   have HF5 := hid hf5
   clear ho5 t5 hs5 hgd5 hf5 hn5
   go_wp2_with fail
   obtain ⟨w6, hw6⟩ : ∃ w6, w6 = w5.alloc (.cells #[.slice p5 n5 c5] 24) := ⟨_, rfl⟩
   rw [<- hw6]
   have hb6 : Below w5.heap.size w5 w6 := by rw [hw6]; exact (Below.refl _ _).alloc (Nat.le_refl _) _
   have hx6 : w6.heap[w5.heap.size]? = some (.cells #[.slice p5 n5 c5] 24 (0, 0)) := by rw [hw6]; simp only [World.alloc, Array.getElem?_push_size]
   have hsrc6 := HS5.out.below hb6
   have hs4 := HBS.out
   obtain ⟨q3, hz2, hz3, hszM, hlt1, hrlt⟩ := HQ.out
   have hR2 := HR2.out
   have hsz4 := HB4.out.size
   have hsz5 := HF5.out.size
   have hsz6 := hb6.size
   have hB5 : Below w.heap.size w w5 := HB4.out.trans (Kpt.below HF5.out (fun x hx => by simp [HSB.out, HCR.out] at hx; omega) hsz4)
   have hB6 : Below w.heap.size w w6 := hB5.trans (hb6.mono hB5.size)
   have HX6 : Hid (w6.heap[w.heap.size]? = some (.cells #[.slice none 0 0] 24 (0, 0))) := hid (by
    rw [hb6.block _ (by omega), HF5.out.2 _ (by omega) (by simp [HSB.out, HCR.out]; omega), HW4.out.block _ q3]
    exact HX3.out)
   have hRX := ((HO5.out.rd cP.grow).step cP.grow (fun _ h _ => h) (Keeps.of_below hb6) hb6.size).step (ok' := fun b => w.heap.size < b) cP.grow (fun b h _ => by show w.heap.size < b; omega) (fun _ _ _ => rfl) (Nat.le_refl _)
   have HO6 := hid hRX
   have HS6 := hid hsrc6
   have HB6 := hid hB6
   have hP4 : pPool (bs.drop 4) = .ok (L, bs'.drop kF) := by rw [<- hbs]; exact HPP.out
   have HP4 := hid hP4
   have hg6 : Glob w6 := hg.below hB6 (Nat.le_refl _)
   have hlt6 : w.heap.size < w6.heap.size := by omega
   have HLE := hid (show w.heap.size <= w6.heap.size by omega)
   have hltx : w5.heap.size < w6.heap.size := (cell1 hx6).1
   have hnx : ¬ w5.heap.size = w.heap.size := by omega
   obtain ⟨-, c6, f6⟩ := cell1 hx6
   obtain ⟨-, c6', f6'⟩ := cell1 HX6.out
   clear hx6 hRX hsrc6 hP4 hB6 hB5 hb6 hw6 hsz5 hsz6 hs4 hz2 hz3 hszM hlt1 hrlt hR2 q3 hsz4 HQ HF5 HW4 HO5 HS5 HX3 HSRC hg4
   cases s5 with
   | error x =>
    have HF : Hid (readA bs = .error x) := hid (readA_arc HPRE.out HP4.out (by have := took_error HT5.out; rw [HCL.out] at this; exact this))
    have hx0 := Src.err_ne HS6.out
    have hd : (((x : Nat) : Int) != 0) = true := by simp; omega
    refine (err_s C _ w6 HS6.out).mono ?_
    rintro e w' ⟨rfl, rfl⟩
    simp only [errN]
    go_wp2_with fail
    refine (err_s C _ w6 HS6.out).mono ?_
    rintro e w' ⟨rfl, rfl⟩
    simp only [errN]
    go_wp2_with fail
    refine bodyPost_ret (v := .tuple #[.agg #[.slice none 0 0], .int .i64 x]) (by simp [results, Tryz.results22, go_sem, c6']) rfl ⟨?_, by rw [HF.out]⟩
    exact HB6.out.trans (set_below (Nat.le_refl _) HLE.out)
   | ok l =>
    have hpa : pArc L (bs'.drop kF) = .ok (a, l) := by have := took_ok HT5.out; rw [HCL.out] at this; exact this
    have hfin := readA_fin HPRE.out HP4.out hpa
    have hcost := arc_cost hpa
    rw [List.length_drop] at hcost
    have hl2 := HHL.out
    have HSM : Hid (formedB a = true -> small a) := hid (fun _ => by unfold small; omega)
    have HZA : Hid (szA a) := hid (fun c hc => (HG5.out c hc).1)
    have HWA : Hid (wfA a) := hid (fun c hc => (HG5.out c hc).2)
    obtain ⟨⟨k, e, bey, h1, h2, h3, h4⟩, -⟩ := HS6.out
    obtain ⟨rfl, rfl, rfl⟩ := h4
    have HR6 := hid h1
    have HKL := hid h1.2.1
    have HFI := hid hfin
    have HCL2 : Hid (C.bs.length <= 40000000) := hid (by rw [HCB.out]; omega)
    clear hfin hpa h1 h2 h3 HT5 hcost hl2
    refine (err_s C _ w6 HS6.out).mono ?_
    rintro e w' ⟨rfl, rfl⟩
    simp only [errN]
    go_wp2_with fail
    rw [<- HCR.out]
    refine (rdone_any C.B C.rb C.bs k 0 w6 HR6.out HCL2.out).mono ?_
    rintro e w7 ⟨rfl, dn, rfl⟩
    obtain ⟨w7, hw7⟩ : ∃ x, x = w6.drewN dn := ⟨_, rfl⟩
    rw [<- hw7]
    have hb7 : Below w6.heap.size w6 w7 := by rw [hw7]; exact below_drewN (Below.refl _ _) _
    have HB7 : Hid (Below w.heap.size w w7) := hid (HB6.out.trans (hb7.mono HLE.out))
    have hg7 := hg6.below hb7 (Nat.le_refl _)
    have hx7 : w7.heap[w.heap.size]? = some (.cells #[.slice none 0 0] 24 (0, 0)) := by rw [hb7.block _ hlt6]; exact HX6.out
    have d6 : w7.cell? ⟨w5.heap.size, 0, none⟩ = some (.slice p5 n5 c5) := by rw [hb7.cell (p := ⟨w5.heap.size, 0, none⟩) hltx]; exact c6
    have hO7 := HO6.out.any cP.grow hb7
    have HX7 := hid hx7
    have HO7 := hid hO7
    have hlt7 : w.heap.size < w7.heap.size := Nat.lt_of_lt_of_le hlt6 hb7.size
    have hltx7 : w5.heap.size < w7.heap.size := Nat.lt_of_lt_of_le hltx hb7.size
    obtain ⟨-, e6, g6⟩ := cell1 hx7
    clear hx7 hO7 c6 f6 c6' f6' hlt6 hltx hb7 hw7 HX6 HO6 HB6 HLE HS6 HR6
    by_cases hkk : k = C.bs.length
    ·have HD0 : Hid (C.bs.drop k = []) := hid (by rw [hkk]; exact List.drop_length)
     have hdk : decide (0 = 0 /\ k = C.bs.length) = true := by simp [hkk]
     rw [hdk]
     clear hkk hdk
     go_wp2_with fail
     refine (right_a a _ p5 n5 c5 w7 HZA.out HWA.out HSM.out hg7 HO7.out).mono ?_
     rintro e w8 ⟨rfl, hb8⟩
     have HB8 : Hid (Below w.heap.size w w8) := hid (HB7.out.trans (hb8.mono HB7.out.size))
     have hx8 : w8.heap[w.heap.size]? = some (.cells #[.slice none 0 0] 24 (0, 0)) := by rw [hb8.block _ hlt7]; exact HX7.out
     have d8 : w8.cell? ⟨w5.heap.size, 0, none⟩ = some (.slice p5 n5 c5) := by rw [hb8.cell (p := ⟨w5.heap.size, 0, none⟩) hltx7]; exact d6
     have HO8 := hid (HO7.out.any cP.grow hb8)
     obtain ⟨-, i6, j6⟩ := cell1 hx8
     have hlt8 : w.heap.size < w8.heap.size := Nat.lt_of_lt_of_le hlt7 hb8.size
     have hltx8 : w5.heap.size < w8.heap.size := Nat.lt_of_lt_of_le hltx7 hb8.size
     clear hx8 hb8 hg7 d6 e6 g6 hlt7 hltx7
     cases hR : rightA a with
     | false =>
      have HF : Hid (readA bs = .error 21) := hid (by rw [HFI.out, if_neg (by simp [hR])])
      go_wp2_with fail
      refine bodyPost_ret (v := .tuple #[.agg #[.slice none 0 0], .int .i64 21]) (by simp [results, Tryz.results22, go_sem, i6]) rfl ⟨?_, by rw [HF.out]; rfl⟩
      exact HB8.out.trans (set_below (Nat.le_refl _) HB8.out.size)
     | true =>
      have HF : Hid (readA bs = .ok a) := hid (by rw [HFI.out, if_pos ⟨HD0.out, hR⟩])
      go_wp2_with fail
      refine bodyPost_ret (v := .tuple #[.agg #[.slice p5 n5 c5], .int .i64 0]) (by simp [results, Tryz.results22, go_sem, i6]) rfl ⟨?_, ?_⟩
      ·exact HB8.out.trans (set_below (Nat.le_refl _) HB8.out.size)
      ·rw [HF.out]
       refine ⟨p5, n5, c5, rfl, ?_, HZA.out, HWA.out⟩
       have hk := Kpt.set [w.heap.size] w8 w.heap.size 0 (.slice p5 n5 c5) (by simp)
       exact (HO8.out.step cP.grow (ok' := fun b => w.heap.size <= b) (fun b h _ => Nat.le_of_lt h) (.of_kpt hk (fun b hb => by simp; omega)) hk.size)
    ·have HF : Hid (readA bs = .error 21) := hid (by
      rw [HFI.out, if_neg]
      rintro ⟨h, -⟩
      have h1 := congrArg List.length h
      rw [List.length_drop, List.length_nil] at h1
      exact hkk (by have := HKL.out; omega))
     have hdk : decide (0 = 0 /\ k = C.bs.length) = false := by simp [hkk]
     rw [hdk]
     clear hkk hdk
     go_wp2_with fail
     refine bodyPost_ret (v := .tuple #[.agg #[.slice none 0 0], .int .i64 21]) (by simp [results, Tryz.results22, go_sem, e6]) rfl ⟨?_, by rw [HF.out]; rfl⟩
     exact HB7.out.trans (set_below (Nat.le_refl _) HB7.out.size)
  ·unfold ReadAns at ha3
   rw [if_neg he] at ha3
   subst ha3
   have HF : Hid (readA bs = .error eF) := hid (readA_pool HPRE.out (by rw [<- hbs]; exact HPP2.out he))
   have hbS := fun u => set_below (w := w3) (B := w.heap.size) (b := w.heap.size) (u := u) (Nat.le_refl _) hB3.size
   have HR3 := hid hr3
   clear hr3 hk3 hb2
   go_wp2_with fail
   refine (rerr_any w1.heap.size rb bs' kF eF _ HR3.out).mono ?_
   rintro e w' ⟨rfl, rfl⟩
   go_wp2_with fail
   refine bodyPost_ret (v := .tuple #[.agg #[.slice none 0 0], .int .i64 eF]) (by simp [results, Tryz.results22, go_sem, c3]) rfl ⟨?_, by rw [HF.out]⟩
   exact hB3.trans (hbS _)
end Go.Proofs.YtijnimjmimeefaaGreat.A
namespace Go.Proofs.YtijnimjmimeefaaGreat.A
open Go.RowKit Go.Proofs.YtijnimjmimeefaaGreat.D Go.Proofs.YtijnimjmimeefaaGreat.O
theorem snip_len (k : Nat) (n : Int) (st : BS) : (snip k n st).1.length <= st.1.length + 16 /\ (snip k n st).2.length <= st.2.length + 1 := by
 unfold snip
 split <;> simp [bAdd, bTry, bSet]
theorem roundS_len (a b : Nat) (st : BS) : (roundS a b st).1.length <= st.1.length + 18 /\ (roundS a b st).2.length <= st.2.length + 1 := by
 have := snip_len (a % 40) b st
 unfold roundS
 split
 ·simp only [bAdd, List.length_append, List.length_cons, List.length_nil]
  omega
 ·omega
theorem drop2 {L : List Nat} {i a b : Nat} (ha : L[i]? = some a) (hb : L[i + 1]? = some b) : L.drop i = a :: b :: L.drop (i + 2) := by
 obtain ⟨h1, h2⟩ := List.getElem?_eq_some_iff.1 ha
 obtain ⟨h3, h4⟩ := List.getElem?_eq_some_iff.1 hb
 rw [List.drop_eq_getElem_cons h1, h2, List.drop_eq_getElem_cons h3, h4]
theorem rounds_next {L : List Nat} {i a b : Nat} {st st0 : BS} (hi : i % 2 = 0) (h40 : i < 40) (ha : L[i]? = some a) (hb : L[i + 1]? = some b) (h : roundsS (20 - i / 2) (L.drop i) st = roundsS 20 L st0) :
  roundsS (20 - (i + 2) / 2) (L.drop (i + 2)) (roundS a b st) = roundsS 20 L st0 := by
 rw [<- h, drop2 ha hb, show 20 - i / 2 = (20 - (i + 2) / 2) + 1 by omega]
 rfl
theorem rounds_end {L : List Nat} {i : Nat} {st st0 : BS} (hi : i % 2 = 0) (h : roundsS (20 - i / 2) (L.drop i) st = roundsS 20 L st0) (he : L.length <= i + 1 ∨ 40 <= i) : st = roundsS 20 L st0 := by
 rw [<- h]
 rcases he with he | he
 ·have : (L.drop i).length <= 1 := by rw [List.length_drop]; omega
  match hd : L.drop i, this with
  | [], _ => cases (20 - i / 2) <;> rfl
  | [a], _ => cases (20 - i / 2) <;> rfl
 ·rw [show 20 - i / 2 = 0 by omega]
  rfl
def bodyAns (l : List Nat) (w : World) (e : Ending) (w' : World) : Prop :=
 ∃ v1 v2, e = .returned (.tuple #[v1, v2]) /\ OwnX 7 61 (sP insC) w' w.heap.size v1 (bodyS l).1 /\ OwnX 4 66 (sP hndC) w' w.heap.size v2 (bodyS l).2 /\ Below w.heap.size w w'
theorem body_p (P : Nat -> Prop) (hnum : ∀ (B bb : Nat) (st : BS) (w0 w : World), Bs B bb st w0 w -> ∀ k n : Nat, P k -> k < 16 -> n < 256 -> st.1.length <= 50000 -> st.2.length <= 50000 -> Calls Tryz.prog 64 #[.pointer (some ⟨bb, 0, none⟩), .int .u8 (k : Int), .int .u8 (n : Int)] w fun e w' => e = .returned (.bool true) /\ Bs B bb (snip k (n : Int) st) w0 w')
  (hno : ∀ (B bb : Nat) (st : BS) (w0 w : World), Bs B bb st w0 w -> ∀ k n : Nat, P k -> 16 <= k -> k < 40 -> Calls Tryz.prog 64 #[.pointer (some ⟨bb, 0, none⟩), .int .u8 (k : Int), .int .u8 (n : Int)] w fun e w' => e = .returned (.bool false) /\ Bs B bb st w0 w')
  (hobj : ∀ (B bb : Nat) (st : BS) (w0 w : World), Bs B bb st w0 w -> ∀ k n : Nat, P k -> 16 <= k -> k < 40 -> n < 256 -> st.1.length <= 50000 -> st.2.length <= 50000 -> Calls Tryz.prog 65 #[.pointer (some ⟨bb, 0, none⟩), .int .u8 (k : Int), .int .u8 (n : Int)] w fun e w' => e = .returned (.tuple #[]) /\ Bs B bb (snip k (n : Int) st) w0 w')
  (bs : List UInt8) (hP : ∀ b ∈ bs, P (b.toNat % 40)) (v : Value) (w : World) (hr : Rd w v bs) (hl : bs.length <= 1000000) :
  Calls Tryz.prog 26 #[v] w (bodyAns (bs.map fun b => b.toNat) w) := by
 have HNUM := hid hnum
 have HNO := hid hno
 have HOBJ := hid hobj
 have HPB := hid hP
 clear hnum hno hobj hP
 obtain ⟨p, cap, rfl, hcap, hn0, hc0⟩ := id hr
 have HB : Hid (Bs w.heap.size w.heap.size ([], []) w (w.alloc (.cells #[.slice none 0 0, .slice none 0 0] 130))) := hid
  ⟨⟨_, _, heap_alloc_new _ _, Nat.le_refl _, OwnX.nil _ _ _ _ _, OwnX.nil _ _ _ _ _, (fun h => by cases h), (fun h => by cases h), fun g h => by cases h⟩, below_al _ _, by simp⟩
 have HC := hid hc0
 have HN := hid hn0
 obtain ⟨L, hL⟩ : ∃ L, L = bs.map fun b => b.toNat := ⟨_, rfl⟩
 have HL := hid hL
 obtain ⟨st0, hst⟩ : ∃ s : BS, s = ([iNum 1, iAt 5 0, iStr ⟨#[115]⟩, iAt 5 1, iNum 3, iOne 21, iAt 5 2, iOf 25 ⟨#[65]⟩, iAt 5 3, iOne 3, iAt 5 4], []) := ⟨_, rfl⟩
 have HST := hid hst
 have hst1 : st0.1.length <= 11 := by rw [hst]; decide
 have hst2 : st0.2.length <= 0 := by rw [hst]; decide
 rw [<- hL]
 clear hr hc0 hn0 hL hst
 go_enter Tryz.func26, Tryz.ntmps26
 go_wp2_with ((first | (go_at_call 31; refine (one_x _ _).mono ?_) | (go_at_call 32; refine (at_x _ _ _).mono ?_) | (go_at_call 62; refine (num_x _ _ (by omega)).mono ?_) | (go_at_call 63; refine (str_x _ _).mono ?_) | (go_at_call 30; refine (of_x _ _ _).mono ?_)); rintro e w' ⟨rfl, hb⟩; (first | replace HB := hid (HB.out.next hb) | replace HB := hid ((HB.out.lit _).next hb)); clear hb)
 refine (add_s HB.out [iNum 1, iAt 5 0, iStr ⟨#[115]⟩, iAt 5 1, iNum 3, iOne 21, iAt 5 2, iOf 25 ⟨#[65]⟩, iAt 5 3, iOne 3, iAt 5 4] _ rfl _ rfl (by simp)).mono ?_
 rintro e w1 ⟨rfl, H1⟩
 rw [show bAdd [iNum 1, iAt 5 0, iStr ⟨#[115]⟩, iAt 5 1, iNum 3, iOne 21, iAt 5 2, iOf 25 ⟨#[65]⟩, iAt 5 3, iOne 3, iAt 5 4] ([], []) = st0 from HST.out.symm] at H1
 have HB1 := hid H1
 clear H1 HB
 go_wp2_with fail
 go_loopw [5] (fun v wr => ∃ (i : Nat) (st : BS), v = .int .i64 (i : Int) /\ i % 2 = 0 /\ i <= 40 /\ st.1.length <= 11 + 9 * i /\ st.2.length <= i /\ Hid (roundsS (20 - i / 2) (L.drop i) st = roundsS 20 L st0) /\ Hid (Bs w.heap.size w.heap.size st w wr)) (fun v _ => 40 - (intOf v).toNat)
 case atStart => exact ⟨0, st0, rfl, rfl, by omega, by omega, by omega, hid rfl, HB1⟩
 case round =>
  obtain ⟨i, st, rfl, hi2, hi40, hs1, hs2, HE, HB⟩ := hrel
  have hll : L.length = bs.length := by rw [HL.out, List.length_map]
  clear HB1
  by_cases hlt : i + 1 < bs.length /\ i < 40
  ·obtain ⟨h1, h40⟩ := hlt
   have hax : bs[i]? = some bs[i] := List.getElem?_eq_getElem (by omega)
   have hbx : bs[i + 1]? = some bs[i + 1] := List.getElem?_eq_getElem (by omega)
   obtain ⟨⟨g, off, sp⟩, rfl⟩ : ∃ a, p = some a := by
    cases p with
    | none => have := HN.out rfl; omega
    | some a => exact ⟨a, rfl⟩
   obtain rfl : sp = none := by
    have hx := World.cell?_spot (HC.out _ rfl 0 _ (List.getElem?_eq_getElem (show 0 < bs.length by omega)))
    simpa [Addr.add] using hx
   have hca := HC.out _ rfl i _ hax
   have hcb := HC.out _ rfl (i + 1) _ hbx
   rw [Go.WideShapes.add_plain] at hca hcb
   have hgl := World.block_lt_of_cell? _ _ hca
   simp only at hgl
   rw [<- HB.out.2.1.cell (p := ⟨g, _, none⟩) hgl] at hca hcb
   obtain ⟨a, ha⟩ : ∃ a : Nat, a = bs[i].toNat := ⟨_, rfl⟩
   obtain ⟨b, hb⟩ : ∃ b : Nat, b = bs[i + 1].toNat := ⟨_, rfl⟩
   have hca' : wr.cell? ⟨g, off + i, none⟩ = some (.int .u8 (a : Int)) := by rw [hca, ha]; rfl
   have hcb' : wr.cell? ⟨g, off + (i + 1), none⟩ = some (.int .u8 (b : Int)) := by rw [hcb, hb]; rfl
   have ha256 : a < 256 := by rw [ha]; exact bs[i].toNat_lt
   have hb256 : b < 256 := by rw [hb]; exact bs[i + 1].toNat_lt
   have HLA : Hid (L[i]? = some a) := hid (by rw [HL.out, List.getElem?_map, hax, ha]; rfl)
   have HLB : Hid (L[i + 1]? = some b) := hid (by rw [HL.out, List.getElem?_map, hbx, hb]; rfl)
   have HCA : Hid (w.cell? ⟨g, off + i, none⟩ = some (.int .u8 (a : Int))) := hid (by rw [<- HB.out.2.1.cell (p := ⟨g, off + i, none⟩) hgl]; exact hca')
   have HCB : Hid (w.cell? ⟨g, off + (i + 1), none⟩ = some (.int .u8 (b : Int))) := hid (by rw [<- HB.out.2.1.cell (p := ⟨g, off + (i + 1), none⟩) hgl]; exact hcb')
   have hrl := roundS_len a b st
   obtain ⟨hr1, hr2⟩ := hrl
   have HEN := hid (rounds_next hi2 h40 HLA.out HLB.out HE.out)
   obtain ⟨k, hk⟩ : ∃ k : Nat, k = a % 40 := ⟨_, rfl⟩
   have hki : (a : Int) % 40 = (k : Int) := by omega
   have hk40 : k < 40 := by omega
   have hkk : (k = 15 ∨ ¬ a = 255) := by omega
   have HK := hid hk
   have HPK : Hid (P k) := hid (by rw [hk, ha]; exact HPB.out _ (List.getElem_mem _))
   clear hca hcb ha hb hax hbx hk HE hll
   have hl1 : st.1.length <= 50000 := by omega
   have hl2 : st.2.length <= 50000 := by omega
   by_cases hk16 : k < 16
   ·go_wp2_with fail
    refine (HNUM.out _ _ _ _ _ HB.out k b HPK.out hk16 hb256 hl1 hl2).mono ?_
    rintro e w2 ⟨rfl, H1⟩
    have hca2 : w2.cell? ⟨g, off + i, none⟩ = some (.int .u8 (a : Int)) := by rw [H1.2.1.cell (p := ⟨g, off + i, none⟩) hgl]; exact HCA.out
    have hcb2 : w2.cell? ⟨g, off + (i + 1), none⟩ = some (.int .u8 (b : Int)) := by rw [H1.2.1.cell (p := ⟨g, off + (i + 1), none⟩) hgl]; exact HCB.out
    replace HB := hid H1
    clear H1 hca' hcb' hki
    by_cases h255 : a = 255
    ·subst h255
     have HR : Hid (roundS 255 b st = bAdd [iNum (b : Int), iOne 43] (snip k (b : Int) st)) := hid (by rw [HK.out]; rfl)
     have hs3 := (snip_len k (b : Int) st).1
     go_wp2_with ((first | (go_at_call 31; refine (one_x _ _).mono ?_) | (go_at_call 62; refine (num_x _ _ (by omega)).mono ?_)); rintro e w' ⟨rfl, hb⟩; (first | replace HB := hid (HB.out.next hb) | replace HB := hid ((HB.out.lit _).next hb)); clear hb)
     refine (add_s HB.out [iNum (b : Int), iOne 43] _ rfl _ rfl (by simp; omega)).mono ?_
     rintro e w3 ⟨rfl, H1⟩
     have HBF := hid H1
     clear H1 HB hca2 hcb2 hs3
     go_wp2_with fail
     go_roundw
     case rel => exact ⟨i + 2, roundS 255 b st, by go_num, by omega, by omega, by omega, by omega, HEN, by rw [HR.out]; exact HBF⟩
     case measure => simp [intOf]; omega
    ·have HR : Hid (roundS a b st = snip k (b : Int) st) := hid (by rw [HK.out]; unfold roundS; rw [if_neg h255])
     go_wp2_with fail
     go_roundw
     case rel => exact ⟨i + 2, roundS a b st, by go_num, by omega, by omega, by omega, by omega, HEN, by rw [HR.out]; exact HB⟩
     case measure => simp [intOf]; omega
   ·have h255 : ¬ a = 255 := by omega
    have HR : Hid (roundS a b st = snip k (b : Int) st) := hid (by rw [HK.out]; unfold roundS; rw [if_neg h255])
    go_wp2_with fail
    refine (HNO.out _ _ _ _ _ HB.out k b HPK.out (by omega) hk40).mono ?_
    rintro e w2 ⟨rfl, H1⟩
    have hca2 : w2.cell? ⟨g, off + i, none⟩ = some (.int .u8 (a : Int)) := by rw [H1.2.1.cell (p := ⟨g, off + i, none⟩) hgl]; exact HCA.out
    have hcb2 : w2.cell? ⟨g, off + (i + 1), none⟩ = some (.int .u8 (b : Int)) := by rw [H1.2.1.cell (p := ⟨g, off + (i + 1), none⟩) hgl]; exact HCB.out
    replace HB := hid H1
    clear H1 hca' hcb'
    go_wp2_with fail
    refine (HOBJ.out _ _ _ _ _ HB.out k b HPK.out (by omega) hk40 hb256 hl1 hl2).mono ?_
    rintro e w3 ⟨rfl, H1⟩
    have hca3 : w3.cell? ⟨g, off + i, none⟩ = some (.int .u8 (a : Int)) := by rw [H1.2.1.cell (p := ⟨g, off + i, none⟩) hgl]; exact HCA.out
    replace HB := hid H1
    clear H1 hca2 hcb2 hki
    go_wp2_with fail
    go_roundw
    case rel => exact ⟨i + 2, roundS a b st, by go_num, by omega, by omega, by omega, by omega, HEN, by rw [HR.out]; exact HB⟩
    case measure => simp [intOf]; omega
  ·have hend : L.length <= i + 1 ∨ 40 <= i := by omega
   have HST2 := hid (rounds_end hi2 HE.out hend)
   have HF : Hid (bodyS L = bAdd [iOne 40] st) := hid (by rw [HST2.out, HST.out]; rfl)
   clear hend hll
   by_cases hlt1 : i + 1 < bs.length
   ·have hge : ¬ i < 40 := fun h => hlt ⟨hlt1, h⟩
    go_wp2_with (go_at_call 31; refine (one_x _ _).mono ?_; rintro e w' ⟨rfl, hb⟩; (first | replace HB := hid (HB.out.next hb) | replace HB := hid ((HB.out.lit _).next hb)); clear hb)
    refine (add_s HB.out [iOne 40] _ rfl _ rfl (by simp; omega)).mono ?_
    rintro e w3 ⟨rfl, ⟨vl, vh, h⟩, h2, h3⟩
    obtain ⟨p1, n1, k1, hv1⟩ := h.2.2.1.slice
    obtain ⟨p2, n2, k2, hv2⟩ := h.2.2.2.1.slice
    subst hv1 hv2
    obtain ⟨q1, c0, c1, f0, f1⟩ := h.cells
    have HH := hid h
    have HZ := hid h2
    clear h h2
    go_wp2_with fail
    go_quiet (fail)
    go_wp2_with fail
    go_ret2
    have hbq : Below w3.heap.size w3 (w3.drewN nq) := below_drewN (Below.refl _ _) _
    have hD := HH.out.below hbq
    exact ⟨_, _, rfl, by rw [HF.out]; exact hD.2.2.1, by rw [HF.out]; exact hD.2.2.2.1, below_drewN HZ.out _⟩
   ·go_wp2_with (go_at_call 31; refine (one_x _ _).mono ?_; rintro e w' ⟨rfl, hb⟩; (first | replace HB := hid (HB.out.next hb) | replace HB := hid ((HB.out.lit _).next hb)); clear hb)
    refine (add_s HB.out [iOne 40] _ rfl _ rfl (by simp; omega)).mono ?_
    rintro e w3 ⟨rfl, ⟨vl, vh, h⟩, h2, h3⟩
    obtain ⟨p1, n1, k1, hv1⟩ := h.2.2.1.slice
    obtain ⟨p2, n2, k2, hv2⟩ := h.2.2.2.1.slice
    subst hv1 hv2
    obtain ⟨q1, c0, c1, f0, f1⟩ := h.cells
    have HH := hid h
    have HZ := hid h2
    clear h h2
    go_wp2_with fail
    go_quiet (fail)
    go_wp2_with fail
    go_ret2
    have hbq : Below w3.heap.size w3 (w3.drewN nq) := below_drewN (Below.refl _ _) _
    have hD := HH.out.below hbq
    exact ⟨_, _, rfl, by rw [HF.out]; exact hD.2.2.1, by rw [HF.out]; exact hD.2.2.2.1, below_drewN HZ.out _⟩
theorem body_v (bs : List UInt8) (v : Value) (w : World) (hr : Rd w v bs) (hl : bs.length <= 1000000) : Calls Tryz.prog 26 #[v] w (bodyAns (bs.map fun b => b.toNat) w) :=
 body_p (fun _ => True) (fun _ _ _ _ _ H k n _ hk hn hl hl2 => numbers_s H k n (Nat.zero_le _) hk hn hl hl2) (fun _ _ _ _ _ H k n _ h0 hk => numbers_no H k n h0 hk) (fun _ _ _ _ _ H k n _ h0 hk hn hl hl2 => objects_s H k n h0 hk hn hl hl2) bs (fun _ _ => trivial) v w hr hl
theorem body_k (bs : List UInt8) (hP : ∀ b ∈ bs, b.toNat % 40 = 0 ∨ b.toNat % 40 = 4 ∨ b.toNat % 40 = 1 ∨ b.toNat % 40 = 2) (v : Value) (w : World) (hr : Rd w v bs) (hl : bs.length <= 1000000) : Calls Tryz.prog 26 #[v] w (bodyAns (bs.map fun b => b.toNat) w) :=
 body_p (fun k => k = 0 ∨ k = 4 ∨ k = 1 ∨ k = 2) (fun _ _ _ _ _ H k n h _ hn hl hl2 => by
  rcases h with rfl | rfl | rfl | rfl
  ·exact snip_0 H n hn hl hl2
  ·exact snip_4 H n hn hl hl2
  ·exact snip_1 H n hn hl hl2
  ·exact snip_2 H n hn hl hl2) (fun _ _ _ _ _ _ k n h h0 hk => by omega) (fun _ _ _ _ _ _ k n h h0 hk => by omega) bs hP v w hr hl
end Go.Proofs.YtijnimjmimeefaaGreat.A
