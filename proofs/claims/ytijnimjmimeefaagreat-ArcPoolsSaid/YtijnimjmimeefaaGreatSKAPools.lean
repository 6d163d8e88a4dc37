/- Texts that the proof is made of, joined. No condition. -/
import Derived.Test.YtijnimjmimeefaaGreatSK21
import Derived.Test.YtijnimjmimeefaaGreatSKAPoolsP
set_option linter.unusedVariables false
set_option linter.unusedSimpArgs false
namespace Go.Proofs.YtijnimjmimeefaaGreat.A
open Go.RowKit Go.Proofs.YtijnimjmimeefaaGreat.D Go.Proofs.YtijnimjmimeefaaGreat.O
theorem pool_sz {s : ByteArray} {k : Nat} (hs : s.size ≤ 1000) : szA (poolA s k) := by
 intro c hc
 unfold poolA at hc
 rw [List.mem_singleton] at hc
 subst hc
 refine ⟨(by decide : ByteArray.size ⟨#[67]⟩ ≤ 100000), (by decide : ByteArray.size ⟨#[79, 98, 106, 101, 99, 116]⟩ ≤ 100000), fun x hx => (by cases hx), fun x hx => (by cases hx), fun m hm => ?_⟩
 rw [List.mem_singleton] at hm
 subst hm
 refine ⟨(by decide : ByteArray.size ⟨#[109]⟩ ≤ 100000), fun x hx => (by cases hx), (by decide : ByteArray.size ⟨#[]⟩ ≤ 100000), fun x hx => ?_, fun x hx => (by cases hx)⟩
 have h0 : ByteArray.size ⟨#[]⟩ ≤ 100000 := by decide
 have h1 : s.size ≤ 100000 := by omega
 rcases pairs_mem s k x hx with rfl | rfl
 ·exact ⟨h1, h0, h0, h0⟩
 ·exact ⟨h0, h0, h0, h0⟩
theorem pool_small {s : ByteArray} {k : Nat} (hk : k ≤ 1000) : small (poolA s k) := by unfold small; rw [pool_cost]; omega
theorem rd_one {α : Type} {sz : Nat} {P : Pv α} {ok : Nat → Prop} {w : World} {b : Nat} {l : List Value} {T : TypeId} {x : α} (h : w.heap[b]? = some (.cells l.toArray T (0, 0))) (hp : P ok w l x) (hok : ok b) : RdX sz P ok w (.slice (some ⟨b, 0, none⟩) 1 1) [x] := by
 obtain ⟨hlt, hc, -⟩ := boxN h
 refine ⟨_, 1, rfl, Nat.le_refl _, (fun e => by cases e), .inr ⟨b, 0, rfl, hok, hlt, fun i y hy => ?_⟩⟩
 cases i with
 | zero =>
  simp only [List.getElem?_cons_zero, Option.some.injEq] at hy
  subst hy
  refine ⟨l, hp, fun j u hu => ?_⟩
  have := hc j u hu
  rwa [Nat.zero_mul, Nat.add_zero]
 | succ i => simp at hy
theorem rd_front2 {α : Type} {sz : Nat} {P : Pv α} {ok : Nat → Prop} {w : World} {p : Option Addr} {n cap m : Nat} {xs ys : List α} (h : RdX sz P ok w (.slice p n cap) (xs ++ ys)) (hm : m = xs.length) : RdX sz P ok w (.slice p m cap) xs := by
 subst hm
 obtain ⟨p', cap', e, h1, h2, h3⟩ := h
 simp only [Value.slice.injEq] at e
 obtain ⟨rfl, -, rfl⟩ := e
 rw [List.length_append] at h1
 refine ⟨_, _, rfl, by omega, h2, ?_⟩
 rcases h3 with h3 | ⟨b, off, rfl, hb, hlt, hc⟩
 ·exact .inl (List.append_eq_nil_iff.1 h3).1
 ·exact .inr ⟨b, off, rfl, hb, hlt, fun i x hx => hc i x (by rw [List.getElem?_append_left (List.getElem?_eq_some_iff.1 hx).1]; exact hx)⟩
theorem pairs_prev (s : ByteArray) {k : Nat} (h : 1 ≤ k) : ∃ l, pairsS s k = pairsS s (k - 1) ++ l := by
 obtain ⟨j, rfl⟩ : ∃ j, k = j + 1 := ⟨k - 1, by omega⟩
 exact ⟨_, rfl⟩
set_option maxHeartbeats 8000000 in
set_option maxRecDepth 100000 in
theorem pools_long (n : Int) (s : ByteArray) (w : World) (hg : Glob w) (hs : 60 < s.size) (hm : s.size ≤ 9223372036854775807) : Calls Tryz.prog 8 #[.int .u8 n, .string s] w fun e w' => e = .returned (.bool true) ∧ Below w.heap.size w w' := by
 have HG := Lib.hid hg
 clear hg
 have hsi : (60 : Int) < (s.size : Int) := by omega
 go_enter Tryz.func8, Tryz.ntmps8
 go_wp2_with fail
 refine (known_a w HG.out).mono ?_
 rintro e w1 ⟨rfl, hb⟩
 have HB := Lib.hid hb
 clear hb
 go_wp2_with fail
 go_ret
 exact ⟨rfl, HB.out⟩
set_option maxHeartbeats 8000000 in
set_option maxRecDepth 100000 in
theorem pools_short (n : Nat) (s : ByteArray) (w : World) (hg : Glob w) (hn : n < 256) (hs : s.size ≤ 60) : Calls Tryz.prog 8 #[.int .u8 (n : Int), .string s] w fun e w' => e = .returned (.bool true) ∧ Below w.heap.size w w' := by
 have HG := Lib.hid hg
 clear hg
 have hsi : (s.size : Int) ≤ 60 := by omega
 obtain ⟨k, hk⟩ : ∃ k : Nat, k = n % 100 + 1 := ⟨_, rfl⟩
 have hk1 : 1 ≤ k := by omega
 have hk2 : k ≤ 100 := by omega
 have hkn : (n : Int) % 100 + 1 = (k : Int) := by omega
 clear hk
 go_enter Tryz.func8, Tryz.ntmps8
 go_wp2_with fail
 refine (known_a w HG.out).mono ?_
 rintro e w1 ⟨rfl, hb⟩
 have HBW := Lib.hid hb
 replace HG := Lib.hid (HG.out.below hb (Nat.le_refl _))
 clear hb
 go_upto_region 6 with fail
 have hb2 := below_alM w1 (.cells #[.string ⟨#[109]⟩, .slice none 0 0, .int .i64 5, .string ⟨#[]⟩, .bool true, .bool false, .int .i64 0, .slice none 0 0, .slice none 0 0] 59)
 have hx2 := heap_alloc_new w1 (.cells #[.string ⟨#[109]⟩, .slice none 0 0, .int .i64 5, .string ⟨#[]⟩, .bool true, .bool false, .int .i64 0, .slice none 0 0, .slice none 0 0] 59)
 obtain ⟨w2, hw2⟩ : ∃ x, x = w1.alloc (.cells #[.string ⟨#[109]⟩, .slice none 0 0, .int .i64 5, .string ⟨#[]⟩, .bool true, .bool false, .int .i64 0, .slice none 0 0, .slice none 0 0] 59) := ⟨_, rfl⟩
 rw [← hw2] at hb2 hx2
 rw [← hw2]
 have hs2 : w2.heap.size = w1.heap.size + 1 := by rw [hw2]; simp
 clear hw2
 have HX := Lib.hid hx2
 have HB2 := Lib.hid hb2
 have HGL := HG
 clear hb2 hx2
 go_wp2_with fail
 go_loopw [7] (fun v wr => ∃ (i : Nat) (pc : Option Addr) (nc cc : Nat), v = .int .i64 (i : Int) ∧ i ≤ k ∧ Hid (wr.heap[w1.heap.size]? = some (.cells #[.string ⟨#[109]⟩, .slice none 0 0, .int .i64 5, .string ⟨#[]⟩, .bool true, .bool false, .int .i64 0, .slice pc nc cc, .slice none 0 0] 59 (0, 0))) ∧ Hid (OwnX 7 61 (sP insC) wr (w1.heap.size + 1) (.slice pc nc cc) (pairsS s i)) ∧ Hid (Below w1.heap.size w1 wr) ∧ w1.heap.size + 1 ≤ wr.heap.size) (fun v _ => k - (intOf v).toNat)
 case atStart => exact ⟨0, none, 0, 0, rfl, by omega, HX, Lib.hid (OwnX.nil _ _ _ _ _), HB2, by omega⟩
 case round =>
  obtain ⟨i, pc, nc, cc, rfl, hik, HX, HO, HB3, hwz⟩ := hrel
  clear HB2
  by_cases hlt : i < k
  ·have hlt' : (i : Int) < (k : Int) := by omega
   obtain ⟨ul, uc, uf⟩ := boxN HX.out
   have u7 := uc 7 _ rfl
   have uz7 := uf 7
   simp only [Nat.zero_add] at u7
   clear uc uf
   have hil := pairs_len s i
   have HL := Lib.hid (rdX_lits insC_len wr [(2, 0, 0, s, ⟨#[]⟩, ⟨#[]⟩, ⟨#[]⟩), (41, 0, 0, ⟨#[]⟩, ⟨#[]⟩, ⟨#[]⟩, ⟨#[]⟩)] #[.int .i64 2, .int .i32 0, .int .i64 0, .string s, .string ⟨#[]⟩, .string ⟨#[]⟩, .string ⟨#[]⟩, .int .i64 41, .int .i32 0, .int .i64 0, .string ⟨#[]⟩, .string ⟨#[]⟩, .string ⟨#[]⟩, .string ⟨#[]⟩] 61 rfl)
   have HO2 := Lib.hid (HO.out.kptS (.of_below (below_alM wr (.cells #[.int .i64 2, .int .i32 0, .int .i64 0, .string s, .string ⟨#[]⟩, .string ⟨#[]⟩, .string ⟨#[]⟩, .int .i64 41, .int .i32 0, .int .i64 0, .string ⟨#[]⟩, .string ⟨#[]⟩, .string ⟨#[]⟩, .string ⟨#[]⟩] 61)) : Kpt [] wr _) (fun _ _ => by simp))
   go_upto_region 9 with (at_builtin; refine wp_appM inf_ins shape_ins rfl _ _ rfl (w1.heap.size + 1) _ (pairsS s i) rfl HO2.out wr.heap.size 0 2 2 [(2, 0, 0, s, ⟨#[]⟩, ⟨#[]⟩, ⟨#[]⟩), (41, 0, 0, ⟨#[]⟩, ⟨#[]⟩, ⟨#[]⟩, ⟨#[]⟩)] rfl HL.out (by simp; omega) (by simp; omega) ?_; intro v3 x3 ho3 hg3 hl3; obtain ⟨p3, n3, c3, hv3⟩ := ho3.slice; subst hv3; have hX3 : x3.heap[w1.heap.size]? = some (.cells #[.string ⟨#[109]⟩, .slice none 0 0, .int .i64 5, .string ⟨#[]⟩, .bool true, .bool false, .int .i64 0, .slice pc nc cc, .slice none 0 0] 59 (0, 0)) := (hg3.block _ (by simp; omega) (fun e => by have := (HO.out.lt _ e.symm).1; omega)).trans (((below_alM wr _).block _ (by omega)).trans HX.out); have HX3 := Lib.hid hX3; have HO3 := Lib.hid ho3; have HG3 := Lib.hid hg3; have HL3 := Lib.hid hl3; clear ho3 hg3 hl3; obtain ⟨vl, vc, vf⟩ := boxN hX3; have v7 := vc 7 _ rfl; have vz7 := vf 7; simp only [Nat.zero_add] at v7; clear vc vf)
   go_wp2_with fail
   go_roundw
   case rel =>
    have kS : Kpt [w1.heap.size] x3 (x3.setCell ⟨w1.heap.size, 7, none⟩ (.slice p3 n3 c3)) := Kpt.set _ _ _ _ _ (by simp)
    have hz3 := HG3.out.size
    simp only [World.size_alloc] at hz3
    refine ⟨i + 1, p3, n3, c3, by go_num, by omega, Lib.hid (by rw [heap_setCell_same _ _ 7 _ _ _ HX3.out]; rfl), Lib.hid (HO3.out.kptS kS (fun g e => by have := (HO3.out.lt g e).1; simp; omega)), Lib.hid ?_, by have := kS.size; omega⟩
    have hbg : Below w1.heap.size (wr.alloc (.cells #[.int .i64 2, .int .i32 0, .int .i64 0, .string s, .string ⟨#[]⟩, .string ⟨#[]⟩, .string ⟨#[]⟩, .int .i64 41, .int .i32 0, .int .i64 0, .string ⟨#[]⟩, .string ⟨#[]⟩, .string ⟨#[]⟩, .string ⟨#[]⟩] 61)) x3 := ⟨HG3.out.os, HG3.out.tape, HG3.out.output, HG3.out.size, fun q hq => HG3.out.block q (by simp; omega) (fun e => by have := (HO.out.lt _ e.symm).1; omega)⟩
    exact ((HB3.out.trans ((below_alM wr _).mono (by omega))).trans hbg).trans (Kpt.below kS (fun x hx => by simp at hx; omega) (by omega))
   case measure => simp [intOf]; omega
  ·obtain rfl : i = k := by omega
   obtain ⟨ul, uc, uf⟩ := boxN HX.out
   have u0 := uc 0 _ rfl
   have uz0 := uf 0
   have u1 := uc 1 _ rfl
   have uz1 := uf 1
   have u2 := uc 2 _ rfl
   have uz2 := uf 2
   have u3 := uc 3 _ rfl
   have uz3 := uf 3
   have u4 := uc 4 _ rfl
   have uz4 := uf 4
   have u5 := uc 5 _ rfl
   have uz5 := uf 5
   have u6 := uc 6 _ rfl
   have uz6 := uf 6
   have u7 := uc 7 _ rfl
   have uz7 := uf 7
   have u8 := uc 8 _ rfl
   have uz8 := uf 8
   simp only [Nat.zero_add] at u0 u1 u2 u3 u4 u5 u6 u7 u8
   clear uc uf
   have hlk := pairs_len s i
   obtain ⟨gc, cap, hv, hcap, hBg, hgl⟩ := HO.out.row (by omega)
   rw [hlk] at hv hcap
   simp only [Value.slice.injEq] at hv
   obtain ⟨rfl, rfl, rfl⟩ := hv
   have HRC := Lib.hid ((HO.out.rd (sP.grow _)).step (ok' := anyB) (sP.grow _) (fun _ _ _ => trivial) (fun _ _ _ => rfl) (Nat.le_refl _))
   have hm1 := rd_lits2 (ok := anyB) (W := wr) shape_mth mP.grow (All2.cons (show mP anyB wr [.string ⟨#[109]⟩, .slice none 0 0, .int .i64 5, .string ⟨#[]⟩, .bool true, .bool false, .int .i64 0, .slice (some ⟨gc, 0, none⟩) (2 * i) cc, .slice none 0 0] (poolM s i) from ⟨_, _, _, rfl, RdX.nil _ _ _ _, HRC.out, RdX.nil _ _ _ _⟩) All2.nil) _ rfl 59 1 rfl trivial
   have hc1 := rd_lits2 (ok := anyB) (W := wr.alloc (.cells #[.string ⟨#[109]⟩, .slice none 0 0, .int .i64 5, .string ⟨#[]⟩, .bool true, .bool false, .int .i64 0, .slice (some ⟨gc, 0, none⟩) (2 * i) cc, .slice none 0 0] 59)) shape_cls cP.grow (All2.cons (show cP anyB _ [.string ⟨#[67]⟩, .string ⟨#[79, 98, 106, 101, 99, 116]⟩, .slice none 0 0, .int .i64 1, .slice none 0 0, .slice (some ⟨wr.heap.size, 0, none⟩) 1 1] ⟨⟨#[67]⟩, ⟨#[79, 98, 106, 101, 99, 116]⟩, [], 1, [], [poolM s i]⟩ from ⟨_, _, _, rfl, RdX.nil _ _ _ _, RdX.nil _ _ _ _, hm1⟩) All2.nil) _ rfl 52 1 rfl trivial
   have HRA := Lib.hid hc1
   clear hm1 hc1
   go_upto_region 12 with fail
   obtain ⟨w4, hw4⟩ : ∃ x, x = ((wr.alloc (.cells #[.string ⟨#[109]⟩, .slice none 0 0, .int .i64 5, .string ⟨#[]⟩, .bool true, .bool false, .int .i64 0, .slice (some ⟨gc, 0, none⟩) (2 * i) cc, .slice none 0 0] 59)).alloc (.cells #[.string ⟨#[67]⟩, .string ⟨#[79, 98, 106, 101, 99, 116]⟩, .slice none 0 0, .int .i64 1, .slice none 0 0, .slice (some ⟨wr.heap.size, 0, none⟩) 1 1] 52)).alloc (.cells #[.slice (some ⟨wr.heap.size + 1, 0, none⟩) 1 1] 24) := ⟨_, rfl⟩
   rw [← hw4]
   have hba := below_alM ((wr.alloc (.cells #[.string ⟨#[109]⟩, .slice none 0 0, .int .i64 5, .string ⟨#[]⟩, .bool true, .bool false, .int .i64 0, .slice (some ⟨gc, 0, none⟩) (2 * i) cc, .slice none 0 0] 59)).alloc (.cells #[.string ⟨#[67]⟩, .string ⟨#[79, 98, 106, 101, 99, 116]⟩, .slice none 0 0, .int .i64 1, .slice none 0 0, .slice (some ⟨wr.heap.size, 0, none⟩) 1 1] 52)) (.cells #[.slice (some ⟨wr.heap.size + 1, 0, none⟩) 1 1] 24)
   have hbb := (below_alM wr (.cells #[.string ⟨#[109]⟩, .slice none 0 0, .int .i64 5, .string ⟨#[]⟩, .bool true, .bool false, .int .i64 0, .slice (some ⟨gc, 0, none⟩) (2 * i) cc, .slice none 0 0] 59)).trans ((below_alM (wr.alloc (.cells #[.string ⟨#[109]⟩, .slice none 0 0, .int .i64 5, .string ⟨#[]⟩, .bool true, .bool false, .int .i64 0, .slice (some ⟨gc, 0, none⟩) (2 * i) cc, .slice none 0 0] 59)) (.cells #[.string ⟨#[67]⟩, .string ⟨#[79, 98, 106, 101, 99, 116]⟩, .slice none 0 0, .int .i64 1, .slice none 0 0, .slice (some ⟨wr.heap.size, 0, none⟩) 1 1] 52)).mono (by simp))
   rw [← hw4] at hba
   have hb4 : Below wr.heap.size wr w4 := hbb.trans (hba.mono (by simp; omega))
   have hx4 : w4.heap[wr.heap.size + 2]? = some (.cells #[.slice (some ⟨wr.heap.size + 1, 0, none⟩) 1 1] 24 (0, 0)) := by rw [hw4]; have := heap_alloc_new ((wr.alloc (.cells #[.string ⟨#[109]⟩, .slice none 0 0, .int .i64 5, .string ⟨#[]⟩, .bool true, .bool false, .int .i64 0, .slice (some ⟨gc, 0, none⟩) (2 * i) cc, .slice none 0 0] 59)).alloc (.cells #[.string ⟨#[67]⟩, .string ⟨#[79, 98, 106, 101, 99, 116]⟩, .slice none 0 0, .int .i64 1, .slice none 0 0, .slice (some ⟨wr.heap.size, 0, none⟩) 1 1] 52)) (.cells #[.slice (some ⟨wr.heap.size + 1, 0, none⟩) 1 1] 24); simpa using this
   have hc4 : w4.heap[wr.heap.size + 1]? = some (.cells #[.string ⟨#[67]⟩, .string ⟨#[79, 98, 106, 101, 99, 116]⟩, .slice none 0 0, .int .i64 1, .slice none 0 0, .slice (some ⟨wr.heap.size, 0, none⟩) 1 1] 52 (0, 0)) := by rw [hba.block _ (by simp)]; have := heap_alloc_new (wr.alloc (.cells #[.string ⟨#[109]⟩, .slice none 0 0, .int .i64 5, .string ⟨#[]⟩, .bool true, .bool false, .int .i64 0, .slice (some ⟨gc, 0, none⟩) (2 * i) cc, .slice none 0 0] 59)) (.cells #[.string ⟨#[67]⟩, .string ⟨#[79, 98, 106, 101, 99, 116]⟩, .slice none 0 0, .int .i64 1, .slice none 0 0, .slice (some ⟨wr.heap.size, 0, none⟩) 1 1] 52); simpa using this
   have hsz4 : w4.heap.size = wr.heap.size + 3 := by rw [hw4]; simp
   clear hw4 hbb
   replace HRA := Lib.hid (HRA.out.any cP.grow hba)
   simp only [World.size_alloc] at HRA
   have HX4 := Lib.hid hx4
   have HC4 := Lib.hid hc4
   have HB4 := Lib.hid hb4
   clear hba hx4 hc4 hb4 ul u0 uz0 u1 uz1 u2 uz2 u3 uz3 u4 uz4 u5 uz5 u6 uz6 u7 uz7 u8 uz8
   obtain ⟨al, ac, af⟩ := boxN HX4.out
   have a0 := ac 0 _ rfl
   have az0 := af 0
   simp only [Nat.zero_add] at a0
   clear ac af
   go_wp2_with fail
   refine (put_a (poolA s i) anyB _ 1 1 w4 (pool_sz (by omega)) (pool_wf s i) (fun _ => pool_small (by omega)) (HGL.out.below (HB3.out.trans (HB4.out.mono (by omega))) (Nat.le_refl _)) HRA.out).mono ?_
   rintro e w5 ⟨v, rfl, ho5, hb5⟩
   obtain ⟨q1, q1c, hq1, -⟩ := ho5.len
   subst hq1
   have hz5 := hb5.size
   have HB5 := Lib.hid (HB4.out.trans (hb5.mono (by omega)))
   have HX5 := Lib.hid ((hb5.block _ (by omega)).trans HX4.out)
   have HC5 := Lib.hid ((hb5.block _ (by omega)).trans HC4.out)
   have HM5 := Lib.hid ((HB5.out.block _ (by omega)).trans HX.out)
   clear ho5 hb5 HX4 HC4 HRA al a0 az0
   obtain ⟨m2, hm2⟩ : ∃ m2 : Nat, m2 = 2 * (i - 1) := ⟨_, rfl⟩
   have hmi : (2 : Int) * (i : Int) - 2 = (m2 : Int) := by omega
   have hmc : (m2 : Int) ≤ (cc : Int) := by omega
   have hm0 : (0 : Int) ≤ (m2 : Int) := by omega
   have HM2 := Lib.hid hm2
   clear hm2
   obtain ⟨al, ac, af⟩ := boxN HM5.out
   have a7 := ac 7 _ rfl
   have az7 := af 7
   simp only [Nat.zero_add] at a7
   clear ac af
   go_upto_region 14 with fail
   obtain ⟨w6, hw6⟩ : ∃ x, x = w5.setCell ⟨w1.heap.size, 7, none⟩ (.slice (some ⟨gc, 0, none⟩) m2 cc) := ⟨_, rfl⟩
   rw [← hw6]
   have kS : Kpt [w1.heap.size] w5 w6 := by rw [hw6]; exact Kpt.set _ _ _ _ _ (by simp)
   have hm6 : w6.heap[w1.heap.size]? = some (.cells #[.string ⟨#[109]⟩, .slice none 0 0, .int .i64 5, .string ⟨#[]⟩, .bool true, .bool false, .int .i64 0, .slice (some ⟨gc, 0, none⟩) m2 cc, .slice none 0 0] 59 (0, 0)) := by rw [hw6, heap_setCell_same _ _ 7 _ _ _ HM5.out]; rfl
   clear hw6
   have HX6 := Lib.hid ((kS.2 _ (by omega) (by simp; omega)).trans HX5.out)
   have HC6 := Lib.hid ((kS.2 _ (by omega) (by simp; omega)).trans HC5.out)
   have HM6 := Lib.hid hm6
   have hz6 := kS.size
   have HKS := Lib.hid kS
   clear kS hm6 al a7 az7 HX5 HC5
   obtain ⟨al, ac, af⟩ := boxN HX6.out
   have a0 := ac 0 _ rfl
   have az0 := af 0
   simp only [Nat.zero_add] at a0
   clear ac af
   obtain ⟨cl, cc, cf⟩ := boxN HC6.out
   have c5 := cc 5 _ rfl
   have cz5 := cf 5
   simp only [Nat.zero_add] at c5
   clear cc cf
   obtain ⟨dl, dc, df⟩ := boxN HM6.out
   have d0 := dc 0 _ rfl
   have dz0 := df 0
   have d1 := dc 1 _ rfl
   have dz1 := df 1
   have d2 := dc 2 _ rfl
   have dz2 := df 2
   have d3 := dc 3 _ rfl
   have dz3 := df 3
   have d4 := dc 4 _ rfl
   have dz4 := df 4
   have d5 := dc 5 _ rfl
   have dz5 := df 5
   have d6 := dc 6 _ rfl
   have dz6 := df 6
   have d7 := dc 7 _ rfl
   have dz7 := df 7
   have d8 := dc 8 _ rfl
   have dz8 := df 8
   simp only [Nat.zero_add] at d0 d1 d2 d3 d4 d5 d6 d7 d8
   clear dc df
   go_upto_region 15 with fail
   obtain ⟨w7, hw7⟩ : ∃ x, x = ((w6.setCell ⟨wr.heap.size + 1, 5, none⟩ (.slice (some ⟨w6.heap.size, 0, none⟩) 1 1)).alloc (.cells #[.string ⟨#[109]⟩, .slice none 0 0, .int .i64 5, .string ⟨#[]⟩, .bool true, .bool false, .int .i64 0, .slice (some ⟨gc, 0, none⟩) m2 cc, .slice none 0 0] 59)) := ⟨_, rfl⟩
   rw [← hw7]
   have k7 : Kpt [wr.heap.size + 1] w6 w7 := by rw [hw7]; exact Kpt.trans (Kpt.set _ _ _ _ _ (by simp)) (Kpt.alloc [] _ _) (fun x hx => by cases hx)
   have hm7 : w7.heap[w6.heap.size]? = some (.cells #[.string ⟨#[109]⟩, .slice none 0 0, .int .i64 5, .string ⟨#[]⟩, .bool true, .bool false, .int .i64 0, .slice (some ⟨gc, 0, none⟩) m2 cc, .slice none 0 0] 59 (0, 0)) := by rw [hw7]; have := heap_alloc_new (w6.setCell ⟨wr.heap.size + 1, 5, none⟩ (.slice (some ⟨w6.heap.size, 0, none⟩) 1 1)) (.cells #[.string ⟨#[109]⟩, .slice none 0 0, .int .i64 5, .string ⟨#[]⟩, .bool true, .bool false, .int .i64 0, .slice (some ⟨gc, 0, none⟩) m2 cc, .slice none 0 0] 59); simpa using this
   have hc7 : w7.heap[wr.heap.size + 1]? = some (.cells #[.string ⟨#[67]⟩, .string ⟨#[79, 98, 106, 101, 99, 116]⟩, .slice none 0 0, .int .i64 1, .slice none 0 0, .slice (some ⟨w6.heap.size, 0, none⟩) 1 1] 52 (0, 0)) := by rw [hw7, (below_alM _ _).block _ (by simp; omega), heap_setCell_same _ _ 5 _ _ _ HC6.out]; rfl
   have hx7 := (k7.2 _ (by omega) (by simp)).trans HX6.out
   clear hw7
   have k56 : Kpt [w1.heap.size] wr w6 := (Kpt.of_below HB5.out : Kpt [w1.heap.size] wr w5).trans HKS.out (fun x hx => .inl hx)
   have k57 : Kpt [w1.heap.size] wr w7 := k56.trans k7 (fun x hx => .inr (by simp at hx; omega))
   have ho7 := HO.out.kptS k57 (fun g e => by have := (HO.out.lt g e).1; simp; omega)
   obtain ⟨lp, hlp⟩ := pairs_prev s (k := i) (by omega)
   have hr7 := ((ho7.rd (sP.grow _)).step (ok' := anyB) (sP.grow _) (fun _ _ _ => trivial) (fun _ _ _ => rfl) (Nat.le_refl _))
   rw [hlp] at hr7
   replace hr7 := rd_front2 (m := m2) hr7 (by rw [pairs_len]; exact HM2.out)
   have hm7 := rd_one (sz := 9) (ok := anyB) (l := [.string ⟨#[109]⟩, .slice none 0 0, .int .i64 5, .string ⟨#[]⟩, .bool true, .bool false, .int .i64 0, .slice (some ⟨gc, 0, none⟩) m2 cc, .slice none 0 0]) hm7 (show mP anyB w7 [.string ⟨#[109]⟩, .slice none 0 0, .int .i64 5, .string ⟨#[]⟩, .bool true, .bool false, .int .i64 0, .slice (some ⟨gc, 0, none⟩) m2 cc, .slice none 0 0] (poolM s (i - 1)) from ⟨_, _, _, rfl, RdX.nil _ _ _ _, hr7, RdX.nil _ _ _ _⟩) trivial
   have hc7 := rd_one (sz := 6) (ok := anyB) (l := [.string ⟨#[67]⟩, .string ⟨#[79, 98, 106, 101, 99, 116]⟩, .slice none 0 0, .int .i64 1, .slice none 0 0, .slice (some ⟨w6.heap.size, 0, none⟩) 1 1]) hc7 (show cP anyB w7 [.string ⟨#[67]⟩, .string ⟨#[79, 98, 106, 101, 99, 116]⟩, .slice none 0 0, .int .i64 1, .slice none 0 0, .slice (some ⟨w6.heap.size, 0, none⟩) 1 1] ⟨⟨#[67]⟩, ⟨#[79, 98, 106, 101, 99, 116]⟩, [], 1, [], [poolM s (i - 1)]⟩ from ⟨_, _, _, rfl, RdX.nil _ _ _ _, RdX.nil _ _ _ _, hm7⟩) trivial
   have HRA := Lib.hid hc7
   have HB7 := Lib.hid (HB3.out.trans (Kpt.below k57 (fun x hx => by simp at hx; omega) (by omega)))
   have HX7 := Lib.hid hx7
   clear hx7 hc7 hm7 hr7 hlp lp ho7 k57 k56 k7 HX6 HC6 HM6 HKS al a0 az0 cl c5 cz5 dl d0 dz0 d1 dz1 d2 dz2 d3 dz3 d4 dz4 d5 dz5 d6 dz6 d7 dz7 d8 dz8
   obtain ⟨al, ac, af⟩ := boxN HX7.out
   have a0 := ac 0 _ rfl
   have az0 := af 0
   simp only [Nat.zero_add] at a0
   clear ac af
   go_wp2_with fail
   refine (put_a (poolA s (i - 1)) anyB _ 1 1 w7 (pool_sz (by omega)) (pool_wf s (i - 1)) (fun _ => pool_small (by omega)) (HGL.out.below HB7.out (Nat.le_refl _)) HRA.out).mono ?_
   rintro e w8 ⟨v, rfl, ho8, hb8⟩
   obtain ⟨q2, q2c, hq2, -⟩ := ho8.len
   subst hq2
   have HB8 := Lib.hid (HB7.out.trans (hb8.mono (HB7.out.size)))
   clear ho8 HX7 HRA al a0 az0 hb8
   have hsA := pool_short (s := s) (k := i) (by omega) (by omega)
   have hsB := pool_short (s := s) (k := i - 1) (by omega) (by omega)
   have hone : i = 1 → (putA (poolA s (i - 1))).length < (putA (poolA s i)).length := fun e => by subst e; exact pool_more (by omega)
   have hlaw : 2 ≤ i → _ := fun e => pool_law (s := s) (k := i) (by omega) (by omega) e
   obtain ⟨la, hla⟩ : ∃ l, l = (putA (poolA s i)).length := ⟨_, rfl⟩
   obtain ⟨lb, hlb⟩ : ∃ l, l = (putA (poolA s (i - 1))).length := ⟨_, rfl⟩
   rw [← hla] at hsA hone hlaw
   rw [← hlb] at hsB hone hlaw
   rw [← hla, ← hlb]
   clear hla hlb
   have hiu : (i : Int) ≤ 100 := by omega
   have hil : (1 : Int) ≤ (i : Int) := by omega
   have hla' : (la : Int) ≤ 1000000000 := by omega
   have hlb' : (lb : Int) ≤ 1000000000 := by omega
   have hla0 : (0 : Int) ≤ (la : Int) := by omega
   have hlb0 : (0 : Int) ≤ (lb : Int) := by omega
   clear hmi hmc hm0
   by_cases hi1 : i = 1
   ·have hi1' : ((i : Int) == 1) = true := by simp [hi1]
    have hgt : (lb : Int) < (la : Int) := by have := hone hi1; omega
    clear hone hlaw
    go_wp2_with fail
    go_ret
    exact ⟨rfl, (HBW.out.trans (HB8.out.mono (HBW.out.size)))⟩
   ·have hi1' : ((i : Int) == 1) = false := by simp; omega
    rcases hlaw (by omega) with h4 | ⟨h5, h6, h7⟩
    ·clear hone hlaw
     go_wp2_with fail
     go_ret
     exact ⟨rfl, (HBW.out.trans (HB8.out.mono (HBW.out.size)))⟩
    ·have h6' : (128 : Int) ≤ 2 * (i : Int) := by omega
     have h7' : 2 * (i : Int) - 2 < 128 := by omega
     clear hone hlaw
     go_wp2_with fail
     go_ret
     exact ⟨rfl, (HBW.out.trans (HB8.out.mono (HBW.out.size)))⟩
end Go.Proofs.YtijnimjmimeefaaGreat.A
