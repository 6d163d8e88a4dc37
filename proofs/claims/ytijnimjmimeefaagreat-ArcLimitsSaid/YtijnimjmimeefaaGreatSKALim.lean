/- Texts that the proof is made of, joined. No condition. -/
import Derived.Test.YtijnimjmimeefaaGreatSK21
import Derived.Test.YtijnimjmimeefaaGreatSKALimP
set_option linter.unusedVariables false
set_option linter.unusedSimpArgs false
namespace Go.Proofs.YtijnimjmimeefaaGreat.A
open Go.RowKit Go.Proofs.YtijnimjmimeefaaGreat.D Go.Proofs.YtijnimjmimeefaaGreat.O
theorem strC_len (s : ByteArray) : (strC s).length = 1 := rfl
theorem rep_next {α : Type} (i : Nat) (x : α) : List.replicate i x ++ [x] = List.replicate (i + 1) x := (List.replicate_succ' ..).symm
theorem all2_rep {α β : Type} {R : α → β → Prop} {r : α} {x : β} (h : R r x) : ∀ n, All2 R (List.replicate n r) (List.replicate n x)
 | 0 => trivial
 | n + 1 => ⟨h, all2_rep h n⟩
theorem rd_box {α : Type} {sz : Nat} {P : Pv α} {ok : Nat → Prop} {w : World} {b : Nat} {l : List Value} {T : TypeId} {x : α} (h : w.heap[b]? = some (.cells l.toArray T (0, 0))) (hp : P ok w l x) (hok : ok b) : RdX sz P ok w (.slice (some ⟨b, 0, none⟩) 1 1) [x] := by
 obtain ⟨hlt, hc, -⟩ := boxN h
 refine ⟨_, 1, rfl, Nat.le_refl _, (fun e => by cases e), .inr ⟨b, 0, rfl, hok, hlt, fun i y hy => ?_⟩⟩
 cases i with
 | zero =>
  simp only [List.getElem?_cons_zero, Option.some.injEq] at hy
  subst hy
  refine ⟨l, hp, fun j u hu => ?_⟩
  have := hc j u hu
  rwa [Nat.zero_mul, Nat.add_zero]
 | succ i => simp at hy
def limR : Raw 6 := ⟨[.string ⟨#[67]⟩, .string ⟨#[79, 98, 106, 101, 99, 116]⟩, .slice none 0 0, .int .i64 1, .slice none 0 0, .slice none 0 0], rfl, by decide⟩
set_option maxHeartbeats 8000000 in
set_option maxRecDepth 100000 in
theorem lim1_v (a n : Nat) (w : World) (hg : Glob w) (ha : a < 256) (hn : n < 256) (hk : a % 7 = 1) : Calls Tryz.prog 7 #[.int .u8 (a : Int), .int .u8 (n : Int)] w fun e w' => e = .returned (.bool true) ∧ Below w.heap.size w w' := by
 have HG := Lib.hid hg
 clear hg
 have hka : (a : Int) % 7 = 1 := by omega
 obtain ⟨dI, hd⟩ : ∃ dI : Int, (n : Int) % 5 - 2 = dI := ⟨_, rfl⟩
 have hd1 : -2 ≤ dI := by omega
 have hd2 : dI ≤ 2 := by omega
 obtain ⟨e, he⟩ : ∃ e : Nat, (100 : Int) + dI = (e : Int) := ⟨(100 + dI).toNat, by omega⟩
 have hem : e ≤ 102 := by omega
 have hel : 98 ≤ e := by omega
 have hei : (e : Int) ≤ 2002 := by omega
 have hdm : (dI ≤ 0 ∧ e ≤ limMax 1) ∨ (0 < dI ∧ limMax 1 < e) := by show (dI ≤ 0 ∧ e ≤ 100) ∨ (0 < dI ∧ 100 < e); omega
 have HDM := Lib.hid hdm
 clear hdm
 go_enter Tryz.func7, Tryz.ntmps7
 go_wp2_with fail
 refine (known_a w HG.out).mono ?_
 rintro e1 w1 ⟨rfl, hb⟩
 have HBW := Lib.hid hb
 replace HG := Lib.hid (HG.out.below hb (Nat.le_refl _))
 clear hb
 go_upto_region 6 with fail
 obtain ⟨w2, hw2⟩ : ∃ x, x = (w1.alloc (.cells #[.string ⟨#[67]⟩, .string ⟨#[79, 98, 106, 101, 99, 116]⟩, .slice none 0 0, .int .i64 1, .slice none 0 0, .slice none 0 0] 52)).alloc (.cells #[.slice none 0 0] 24) := ⟨_, rfl⟩
 rw [← hw2]
 have HC : Hid (w2.heap[w1.heap.size]? = some (.cells #[.string ⟨#[67]⟩, .string ⟨#[79, 98, 106, 101, 99, 116]⟩, .slice none 0 0, .int .i64 1, .slice none 0 0, .slice none 0 0] 52 (0, 0))) := Lib.hid (by rw [hw2, (below_alM _ _).block _ (by simp)]; exact heap_alloc_new _ _)
 have HA : Hid (w2.heap[w1.heap.size + 1]? = some (.cells #[.slice none 0 0] 24 (0, 0))) := Lib.hid (by rw [hw2]; have := heap_alloc_new (w1.alloc (.cells #[.string ⟨#[67]⟩, .string ⟨#[79, 98, 106, 101, 99, 116]⟩, .slice none 0 0, .int .i64 1, .slice none 0 0, .slice none 0 0] 52)) (.cells #[.slice none 0 0] 24); rwa [World.size_alloc] at this)
 have HB : Hid (Below w1.heap.size w1 w2) := Lib.hid (by rw [hw2]; exact (below_alM _ _).trans ((below_alM _ _).mono (below_alM _ _).size))
 have hs2 : w2.heap.size = w1.heap.size + 2 := by rw [hw2]; simp
 clear hw2
 go_wp2_with fail
 clear hka
 go_loopw [10] (fun v wr => ∃ (i : Nat) (pc : Option Addr) (nc cc : Nat), v = .int .i64 (i : Int) ∧ i ≤ e ∧ Hid (wr.heap[w1.heap.size]? = some (.cells #[.string ⟨#[67]⟩, .string ⟨#[79, 98, 106, 101, 99, 116]⟩, .slice none 0 0, .int .i64 1, .slice pc nc cc, .slice none 0 0] 52 (0, 0))) ∧ Hid (OwnX 4 63 (sP fldC) wr (w1.heap.size + 2) (.slice pc nc cc) (List.replicate i (limF : Fld))) ∧ Hid (wr.heap[w1.heap.size + 1]? = some (.cells #[.slice none 0 0] 24 (0, 0))) ∧ Hid (Below w1.heap.size w1 wr) ∧ w1.heap.size + 2 ≤ wr.heap.size) (fun v _ => e - (intOf v).toNat)
 case atStart => exact ⟨0, none, 0, 0, rfl, by omega, HC, Lib.hid (OwnX.nil _ _ _ _ _), HA, HB, by omega⟩
 case round =>
  clear HC HA HB
  obtain ⟨i, pc, nc, cc, rfl, hik, HC, HO, HA, HB, hwz⟩ := hrel
  by_cases hlt : i < e
  ·have hlt' : (i : Int) < (e : Int) := by omega
   obtain ⟨ul, uc, uf⟩ := boxN HC.out
   have u4 := uc 4 _ rfl
   have uz4 := uf 4
   simp only [Nat.zero_add] at u4
   clear uc uf
   have HL := Lib.hid (rdX_lits fldC_len wr [limF] #[.string ⟨#[102]⟩, .int .i64 1, .string ⟨#[]⟩, .bool false] 63 rfl)
   have HO2 := Lib.hid (HO.out.kptS (.of_below (below_alM wr (.cells #[.string ⟨#[102]⟩, .int .i64 1, .string ⟨#[]⟩, .bool false] 63)) : Kpt [] wr _) (fun _ _ => by simp))
   go_upto_region 25 with (at_builtin; refine wp_appM inf_fld shape_fld rfl _ _ rfl (w1.heap.size + 2) _ (List.replicate i limF) rfl HO2.out wr.heap.size 0 1 1 [limF] rfl HL.out (by simp; omega) (by simp; omega) ?_; intro v3 x3 ho3 hg3 hl3; obtain ⟨p3, n3, c3, hv3⟩ := ho3.slice; subst hv3; rw [rep_next] at ho3; have HO3 := Lib.hid ho3; have hHC := (hg3.block _ (by simp; omega) (fun e => by have := (HO.out.lt _ e.symm).1; omega)).trans (((below_alM wr _).block _ (by omega)).trans HC.out); replace HC := Lib.hid hHC; clear hHC; have hHA := (hg3.block _ (by simp; omega) (fun e => by have := (HO.out.lt _ e.symm).1; omega)).trans (((below_alM wr _).block _ (by omega)).trans HA.out); replace HA := Lib.hid hHA; clear hHA; have HG3 := Lib.hid hg3; have HL3 := Lib.hid hl3; clear ho3 hg3 hl3; obtain ⟨xl, xc, xf⟩ := boxN HC.out; have x4 := xc 4 _ rfl; have xz4 := xf 4; simp only [Nat.zero_add] at x4; clear xc xf)
   go_wp2_with fail
   go_roundw
   case rel =>
    have kS : Kpt [w1.heap.size] x3 (x3.setCell ⟨w1.heap.size, 4, none⟩ (.slice p3 n3 c3)) := Kpt.set _ _ _ _ _ (by simp)
    have hz3 := HG3.out.size
    simp only [World.size_alloc] at hz3
    refine ⟨i + 1, p3, n3, c3, by go_num, by omega, Lib.hid (by rw [heap_setCell_same _ _ 4 _ _ _ HC.out]; rfl), Lib.hid (HO3.out.kptS kS (fun g e => by have := (HO3.out.lt g e).1; simp; omega)), Lib.hid ((kS.2 _ (by omega) (by simp)).trans HA.out), Lib.hid ?_, by have := kS.size; omega⟩
    have hbg : Below w1.heap.size (wr.alloc (.cells #[.string ⟨#[102]⟩, .int .i64 1, .string ⟨#[]⟩, .bool false] 63)) x3 := ⟨HG3.out.os, HG3.out.tape, HG3.out.output, HG3.out.size, fun q hq => HG3.out.block q (by simp; omega) (fun e => by have := (HO.out.lt _ e.symm).1; omega)⟩
    exact ((HB.out.trans ((below_alM wr _).mono (by omega))).trans hbg).trans (Kpt.below kS (fun x hx => by simp at hx; omega) (by omega))
   case measure => simp [intOf]; omega
  ·obtain rfl : e = i := by omega
   clear hlt
   have HRC := Lib.hid ((HO.out.rd (sP.grow _)).step (ok' := anyB) (sP.grow _) (fun _ _ _ => trivial) (fun _ _ _ => rfl) (Nat.le_refl _))
   obtain ⟨ul, uc, uf⟩ := boxN HC.out
   have u0 := uc 0 _ rfl
   have uz0 := uf 0
   have u1 := uc 1 _ rfl
   have uz1 := uf 1
   have u2 := uc 2 _ rfl
   have uz2 := uf 2
   have u3 := uc 3 _ rfl
   have uz3 := uf 3
   have u4 := uc 4 _ rfl
   have uz4 := uf 4
   have u5 := uc 5 _ rfl
   have uz5 := uf 5
   simp only [Nat.zero_add] at u0 u1 u2 u3 u4 u5
   clear uc uf
   obtain ⟨al, ac, af⟩ := boxN HA.out
   have a0 := ac 0 _ rfl
   have az0 := af 0
   simp only [Nat.zero_add] at a0
   clear ac af
   go_upto_region 50 with fail
   obtain ⟨w4, hw4⟩ : ∃ x, x = ((wr.setCell ⟨w1.heap.size + 1, 0, none⟩ (.slice (some ⟨wr.heap.size, 0, none⟩) 1 1)).alloc (.cells #[.string ⟨#[67]⟩, .string ⟨#[79, 98, 106, 101, 99, 116]⟩, .slice none 0 0, .int .i64 1, .slice pc nc cc, .slice none 0 0] 52)) := ⟨_, rfl⟩
   rw [← hw4]
   have k4 : Kpt [w1.heap.size + 1] wr w4 := by rw [hw4]; exact Kpt.trans (Kpt.set _ _ _ _ _ (by simp)) (Kpt.alloc [] _ _) (fun x hx => by cases hx)
   have hx4 : w4.heap[w1.heap.size + 1]? = some (.cells #[.slice (some ⟨wr.heap.size, 0, none⟩) 1 1] 24 (0, 0)) := by rw [hw4, (below_alM _ _).block _ (by simp; omega), heap_setCell_same _ _ 0 _ _ _ HA.out]; rfl
   have hc4 : w4.heap[wr.heap.size]? = some (.cells #[.string ⟨#[67]⟩, .string ⟨#[79, 98, 106, 101, 99, 116]⟩, .slice none 0 0, .int .i64 1, .slice pc nc cc, .slice none 0 0] 52 (0, 0)) := by rw [hw4]; have := heap_alloc_new (wr.setCell ⟨w1.heap.size + 1, 0, none⟩ (.slice (some ⟨wr.heap.size, 0, none⟩) 1 1)) (.cells #[.string ⟨#[67]⟩, .string ⟨#[79, 98, 106, 101, 99, 116]⟩, .slice none 0 0, .int .i64 1, .slice pc nc cc, .slice none 0 0] 52); simpa using this
   have hs4 : w4.heap.size = wr.heap.size + 1 := by rw [hw4]; simp
   clear hw4
   have hrc : RdX _ (sP fldC) anyB w4 (.slice pc nc cc) _ := (HO.out.kptS k4 (fun g e => by have := (HO.out.lt g e).1; simp; omega)).rd (sP.grow _) |>.step (sP.grow _) (fun _ _ _ => trivial) (fun _ _ _ => rfl) (Nat.le_refl _)
   have hrd := show cP anyB w4 [.string ⟨#[67]⟩, .string ⟨#[79, 98, 106, 101, 99, 116]⟩, .slice none 0 0, .int .i64 1, .slice pc nc cc, .slice none 0 0] (limC [] (List.replicate e limF) []) from ⟨_, _, _, rfl, RdX.nil _ _ _ _, hrc, RdX.nil _ _ _ _⟩
   clear hrc HO
   have hc5 := rd_box (sz := 6) (ok := anyB) (l := [.string ⟨#[67]⟩, .string ⟨#[79, 98, 106, 101, 99, 116]⟩, .slice none 0 0, .int .i64 1, .slice pc nc cc, .slice none 0 0]) hc4 (show cP anyB w4 [.string ⟨#[67]⟩, .string ⟨#[79, 98, 106, 101, 99, 116]⟩, .slice none 0 0, .int .i64 1, .slice pc nc cc, .slice none 0 0] (limC [] (List.replicate e limF) []) from hrd) trivial
   have HRA : Hid (RdX 6 cP anyB w4 (.slice (some ⟨wr.heap.size, 0, none⟩) 1 1) (limA 1 e)) := Lib.hid hc5
   have HB4 := Lib.hid (HB.out.trans (Kpt.below k4 (fun x hx => by simp at hx; omega) (by omega)))
   have HX4 := Lib.hid hx4
   clear hc5 hc4 hx4 k4 hrd HC HA HRC ul u0 uz0 u1 uz1 u2 uz2 u3 uz3 u4 uz4 u5 uz5 al a0 az0
   obtain ⟨al, ac, af⟩ := boxN HX4.out
   have a0 := ac 0 _ rfl
   have az0 := af 0
   simp only [Nat.zero_add] at a0
   clear ac af
   go_wp2_with fail
   refine (put_a (limA 1 e) anyB _ 1 1 w4 (lim_sz _ _) (lim_wf _ _) (fun _ => lim_small (by omega)) (HG.out.below HB4.out (Nat.le_refl _)) HRA.out).mono ?_
   rintro e2 w5 ⟨v, rfl, ho5, hb5⟩
   obtain ⟨q1, n1, c1, rfl⟩ := own_slice ho5
   replace HRA := Lib.hid (HRA.out.any cP.grow hb5)
   replace HB4 := Lib.hid (HB4.out.trans (hb5.mono HB4.out.size))
   replace HX4 := Lib.hid ((hb5.block _ al).trans HX4.out)
   have hlen := ho5.len
   have HO5 := Lib.hid ho5
   have hs5 := hb5.size
   clear ho5 hb5 a0 az0
   go_wp2_with fail
   refine (read_a (.slice q1 n1 c1) (putA (limA 1 e)) w5 HO5.out.rd (lim_len (by omega)) (HG.out.below HB4.out (Nat.le_refl _))).mono ?_
   rintro e3 w6 ⟨hb6, hans⟩
   obtain ⟨a1', c1', e1', hle', -⟩ := hlen
   simp only [Value.slice.injEq] at e1'
   obtain ⟨-, rfl, rfl⟩ := e1'
   clear hle'
   rcases HDM.out with ⟨hd0, hem0⟩ | ⟨hd0, hem0⟩
   ·rw [read_put (by rw [lim_right]; exact decide_eq_true hem0) (lim_wf _ _)] at hans
    obtain ⟨pX, nX, cX, rfl, hrx, -⟩ := hans
    have hpos : (0 : Int) < ((putA (limA 1 e)).length : Int) := by have := lim_pos hem0; omega
    have HRX := Lib.hid hrx
    clear hrx
    replace HRA := Lib.hid (HRA.out.any cP.grow hb6)
    replace HX4 := Lib.hid ((hb6.block _ (by omega)).trans HX4.out)
    replace HB4 := Lib.hid (HB4.out.trans (hb6.mono HB4.out.size))
    have hs6 := hb6.size
    clear hb6 HO5
    go_upto_region 52 with fail
    obtain ⟨w7, hw7⟩ : ∃ x, x = w6.alloc (.cells #[.slice pX nX cX] 24) := ⟨_, rfl⟩
    rw [← hw7]
    have hb7 := below_alM w6 (.cells #[.slice pX nX cX] 24)
    have hx7 := heap_alloc_new w6 (.cells #[.slice pX nX cX] 24)
    rw [← hw7] at hb7 hx7
    clear hw7
    replace HRA := Lib.hid (HRA.out.any cP.grow hb7)
    replace HX4 := Lib.hid ((hb7.block _ (by omega)).trans HX4.out)
    replace HB4 := Lib.hid (HB4.out.trans (hb7.mono HB4.out.size))
    have hs7 := hb7.size
    replace HRX := Lib.hid (HRX.out.any cP.grow hb7)
    have HX7 := Lib.hid hx7
    clear hb7 hx7
    obtain ⟨al4, ac, af⟩ := boxN HX4.out
    have a0 := ac 0 _ rfl
    have az0 := af 0
    simp only [Nat.zero_add] at a0
    clear ac af
    go_wp2_with fail
    refine (right_a (limA 1 e) anyB _ 1 1 w7 (lim_sz _ _) (lim_wf _ _) (fun _ => lim_small (by omega)) (HG.out.below HB4.out (Nat.le_refl _)) HRA.out).mono ?_
    rintro e4 w8 ⟨rfl, hb8⟩
    rw [lim_right, decide_eq_true hem0]
    replace HRA := Lib.hid (HRA.out.any cP.grow hb8)
    replace HX4 := Lib.hid ((hb8.block _ (by omega)).trans HX4.out)
    replace HX7 := Lib.hid ((hb8.block _ (boxN HX7.out).1).trans HX7.out)
    replace HB4 := Lib.hid (HB4.out.trans (hb8.mono HB4.out.size))
    replace HRX := Lib.hid (HRX.out.any cP.grow hb8)
    clear hb8 a0 az0
    obtain ⟨bl, bc, bf⟩ := boxN HX4.out
    have b0 := bc 0 _ rfl
    have bz0 := bf 0
    simp only [Nat.zero_add] at b0
    clear bc bf
    obtain ⟨xl, xc, xf⟩ := boxN HX7.out
    have x0 := xc 0 _ rfl
    have xz0 := xf 0
    simp only [Nat.zero_add] at x0
    clear xc xf
    go_wp2_with fail
    have hbd : bdA (limA 1 e) := formed_bd (by rw [lim_formed]; exact decide_eq_true hem0)
    refine (same_a (limA 1 e) (limA 1 e) _ _ _ _ _ _ _ _ _ hbd hbd HRX.out HRA.out).mono ?_
    rintro e5 w9 ⟨rfl, hb9⟩
    rw [eqA_self]
    replace HB4 := Lib.hid (HB4.out.trans (hb9.mono HB4.out.size))
    clear hb9
    go_wp2_with fail
    go_ret
    exact ⟨rfl, HBW.out.trans (HB4.out.mono HBW.out.size)⟩
   ·have hnil := lim_none hem0
    have hlz : ((putA (limA 1 e)).length : Int) = 0 := by rw [hnil]; rfl
    rw [hnil, show readA [] = .error 21 from rfl] at hans
    simp only at hans
    subst hans
    clear hnil
    replace HRA := Lib.hid (HRA.out.any cP.grow hb6)
    replace HX4 := Lib.hid ((hb6.block _ (by omega)).trans HX4.out)
    replace HB4 := Lib.hid (HB4.out.trans (hb6.mono HB4.out.size))
    have hs6 := hb6.size
    clear hb6 HO5
    go_upto_region 52 with fail
    obtain ⟨w7, hw7⟩ : ∃ x, x = w6.alloc (.cells #[.slice none 0 0] 24) := ⟨_, rfl⟩
    rw [← hw7]
    have hb7 := below_alM w6 (.cells #[.slice none 0 0] 24)
    have hx7 := heap_alloc_new w6 (.cells #[.slice none 0 0] 24)
    rw [← hw7] at hb7 hx7
    clear hw7
    replace HRA := Lib.hid (HRA.out.any cP.grow hb7)
    replace HX4 := Lib.hid ((hb7.block _ (by omega)).trans HX4.out)
    replace HB4 := Lib.hid (HB4.out.trans (hb7.mono HB4.out.size))
    have hs7 := hb7.size
    have HX7 := Lib.hid hx7
    clear hb7 hx7
    obtain ⟨al4, ac, af⟩ := boxN HX4.out
    have a0 := ac 0 _ rfl
    have az0 := af 0
    simp only [Nat.zero_add] at a0
    clear ac af
    go_wp2_with fail
    refine (right_a (limA 1 e) anyB _ 1 1 w7 (lim_sz _ _) (lim_wf _ _) (fun _ => lim_small (by omega)) (HG.out.below HB4.out (Nat.le_refl _)) HRA.out).mono ?_
    rintro e4 w8 ⟨rfl, hb8⟩
    rw [lim_right, decide_eq_false (by omega)]
    replace HRA := Lib.hid (HRA.out.any cP.grow hb8)
    replace HX4 := Lib.hid ((hb8.block _ (by omega)).trans HX4.out)
    replace HX7 := Lib.hid ((hb8.block _ (boxN HX7.out).1).trans HX7.out)
    replace HB4 := Lib.hid (HB4.out.trans (hb8.mono HB4.out.size))
    clear hb8 a0 az0
    go_wp2_with fail
    go_ret
    exact ⟨ret_bool (by simp; omega), HBW.out.trans (HB4.out.mono HBW.out.size)⟩
set_option maxHeartbeats 8000000 in
set_option maxRecDepth 100000 in
theorem lim2_v (a n : Nat) (w : World) (hg : Glob w) (ha : a < 256) (hn : n < 256) (hk : a % 7 = 2) : Calls Tryz.prog 7 #[.int .u8 (a : Int), .int .u8 (n : Int)] w fun e w' => e = .returned (.bool true) ∧ Below w.heap.size w w' := by
 have HG := Lib.hid hg
 clear hg
 have hka : (a : Int) % 7 = 2 := by omega
 obtain ⟨dI, hd⟩ : ∃ dI : Int, (n : Int) % 5 - 2 = dI := ⟨_, rfl⟩
 have hd1 : -2 ≤ dI := by omega
 have hd2 : dI ≤ 2 := by omega
 obtain ⟨e, he⟩ : ∃ e : Nat, (20 : Int) + dI = (e : Int) := ⟨(20 + dI).toNat, by omega⟩
 have hem : e ≤ 22 := by omega
 have hel : 18 ≤ e := by omega
 have hei : (e : Int) ≤ 2002 := by omega
 have hdm : (dI ≤ 0 ∧ e ≤ limMax 2) ∨ (0 < dI ∧ limMax 2 < e) := by show (dI ≤ 0 ∧ e ≤ 20) ∨ (0 < dI ∧ 20 < e); omega
 have HDM := Lib.hid hdm
 clear hdm
 go_enter Tryz.func7, Tryz.ntmps7
 go_wp2_with fail
 refine (known_a w HG.out).mono ?_
 rintro e1 w1 ⟨rfl, hb⟩
 have HBW := Lib.hid hb
 replace HG := Lib.hid (HG.out.below hb (Nat.le_refl _))
 clear hb
 go_upto_region 6 with fail
 obtain ⟨w2, hw2⟩ : ∃ x, x = (w1.alloc (.cells #[.string ⟨#[67]⟩, .string ⟨#[79, 98, 106, 101, 99, 116]⟩, .slice none 0 0, .int .i64 1, .slice none 0 0, .slice none 0 0] 52)).alloc (.cells #[.slice none 0 0] 24) := ⟨_, rfl⟩
 rw [← hw2]
 have HC : Hid (w2.heap[w1.heap.size]? = some (.cells #[.string ⟨#[67]⟩, .string ⟨#[79, 98, 106, 101, 99, 116]⟩, .slice none 0 0, .int .i64 1, .slice none 0 0, .slice none 0 0] 52 (0, 0))) := Lib.hid (by rw [hw2, (below_alM _ _).block _ (by simp)]; exact heap_alloc_new _ _)
 have HA : Hid (w2.heap[w1.heap.size + 1]? = some (.cells #[.slice none 0 0] 24 (0, 0))) := Lib.hid (by rw [hw2]; have := heap_alloc_new (w1.alloc (.cells #[.string ⟨#[67]⟩, .string ⟨#[79, 98, 106, 101, 99, 116]⟩, .slice none 0 0, .int .i64 1, .slice none 0 0, .slice none 0 0] 52)) (.cells #[.slice none 0 0] 24); rwa [World.size_alloc] at this)
 have HB : Hid (Below w1.heap.size w1 w2) := Lib.hid (by rw [hw2]; exact (below_alM _ _).trans ((below_alM _ _).mono (below_alM _ _).size))
 have hs2 : w2.heap.size = w1.heap.size + 2 := by rw [hw2]; simp
 clear hw2
 go_wp2_with fail
 clear hka
 go_loopw [11] (fun v wr => ∃ (i : Nat) (pc : Option Addr) (nc cc : Nat), v = .int .i64 (i : Int) ∧ i ≤ e ∧ Hid (wr.heap[w1.heap.size]? = some (.cells #[.string ⟨#[67]⟩, .string ⟨#[79, 98, 106, 101, 99, 116]⟩, .slice pc nc cc, .int .i64 1, .slice none 0 0, .slice none 0 0] 52 (0, 0))) ∧ Hid (OwnX 1 9 (sP strC) wr (w1.heap.size + 2) (.slice pc nc cc) (List.replicate i (⟨#[73]⟩ : ByteArray))) ∧ Hid (wr.heap[w1.heap.size + 1]? = some (.cells #[.slice none 0 0] 24 (0, 0))) ∧ Hid (Below w1.heap.size w1 wr) ∧ w1.heap.size + 2 ≤ wr.heap.size) (fun v _ => e - (intOf v).toNat)
 case atStart => exact ⟨0, none, 0, 0, rfl, by omega, HC, Lib.hid (OwnX.nil _ _ _ _ _), HA, HB, by omega⟩
 case round =>
  clear HC HA HB
  obtain ⟨i, pc, nc, cc, rfl, hik, HC, HO, HA, HB, hwz⟩ := hrel
  by_cases hlt : i < e
  ·have hlt' : (i : Int) < (e : Int) := by omega
   obtain ⟨ul, uc, uf⟩ := boxN HC.out
   have u2 := uc 2 _ rfl
   have uz2 := uf 2
   simp only [Nat.zero_add] at u2
   clear uc uf
   have HL := Lib.hid (rdX_lits strC_len wr [⟨#[73]⟩] #[.string ⟨#[73]⟩] 9 rfl)
   have HO2 := Lib.hid (HO.out.kptS (.of_below (below_alM wr (.cells #[.string ⟨#[73]⟩] 9)) : Kpt [] wr _) (fun _ _ => by simp))
   go_upto_region 31 with (at_builtin; refine wp_appM inf_str shape_str rfl _ _ rfl (w1.heap.size + 2) _ (List.replicate i ⟨#[73]⟩) rfl HO2.out wr.heap.size 0 1 1 [⟨#[73]⟩] rfl HL.out (by simp; omega) (by simp; omega) ?_; intro v3 x3 ho3 hg3 hl3; obtain ⟨p3, n3, c3, hv3⟩ := ho3.slice; subst hv3; rw [rep_next] at ho3; have HO3 := Lib.hid ho3; have hHC := (hg3.block _ (by simp; omega) (fun e => by have := (HO.out.lt _ e.symm).1; omega)).trans (((below_alM wr _).block _ (by omega)).trans HC.out); replace HC := Lib.hid hHC; clear hHC; have hHA := (hg3.block _ (by simp; omega) (fun e => by have := (HO.out.lt _ e.symm).1; omega)).trans (((below_alM wr _).block _ (by omega)).trans HA.out); replace HA := Lib.hid hHA; clear hHA; have HG3 := Lib.hid hg3; have HL3 := Lib.hid hl3; clear ho3 hg3 hl3; obtain ⟨xl, xc, xf⟩ := boxN HC.out; have x2 := xc 2 _ rfl; have xz2 := xf 2; simp only [Nat.zero_add] at x2; clear xc xf)
   go_wp2_with fail
   go_roundw
   case rel =>
    have kS : Kpt [w1.heap.size] x3 (x3.setCell ⟨w1.heap.size, 2, none⟩ (.slice p3 n3 c3)) := Kpt.set _ _ _ _ _ (by simp)
    have hz3 := HG3.out.size
    simp only [World.size_alloc] at hz3
    refine ⟨i + 1, p3, n3, c3, by go_num, by omega, Lib.hid (by rw [heap_setCell_same _ _ 2 _ _ _ HC.out]; rfl), Lib.hid (HO3.out.kptS kS (fun g e => by have := (HO3.out.lt g e).1; simp; omega)), Lib.hid ((kS.2 _ (by omega) (by simp)).trans HA.out), Lib.hid ?_, by have := kS.size; omega⟩
    have hbg : Below w1.heap.size (wr.alloc (.cells #[.string ⟨#[73]⟩] 9)) x3 := ⟨HG3.out.os, HG3.out.tape, HG3.out.output, HG3.out.size, fun q hq => HG3.out.block q (by simp; omega) (fun e => by have := (HO.out.lt _ e.symm).1; omega)⟩
    exact ((HB.out.trans ((below_alM wr _).mono (by omega))).trans hbg).trans (Kpt.below kS (fun x hx => by simp at hx; omega) (by omega))
   case measure => simp [intOf]; omega
  ·obtain rfl : e = i := by omega
   clear hlt
   have HRC := Lib.hid ((HO.out.rd (sP.grow _)).step (ok' := anyB) (sP.grow _) (fun _ _ _ => trivial) (fun _ _ _ => rfl) (Nat.le_refl _))
   obtain ⟨ul, uc, uf⟩ := boxN HC.out
   have u0 := uc 0 _ rfl
   have uz0 := uf 0
   have u1 := uc 1 _ rfl
   have uz1 := uf 1
   have u2 := uc 2 _ rfl
   have uz2 := uf 2
   have u3 := uc 3 _ rfl
   have uz3 := uf 3
   have u4 := uc 4 _ rfl
   have uz4 := uf 4
   have u5 := uc 5 _ rfl
   have uz5 := uf 5
   simp only [Nat.zero_add] at u0 u1 u2 u3 u4 u5
   clear uc uf
   obtain ⟨al, ac, af⟩ := boxN HA.out
   have a0 := ac 0 _ rfl
   have az0 := af 0
   simp only [Nat.zero_add] at a0
   clear ac af
   go_upto_region 50 with fail
   obtain ⟨w4, hw4⟩ : ∃ x, x = ((wr.setCell ⟨w1.heap.size + 1, 0, none⟩ (.slice (some ⟨wr.heap.size, 0, none⟩) 1 1)).alloc (.cells #[.string ⟨#[67]⟩, .string ⟨#[79, 98, 106, 101, 99, 116]⟩, .slice pc nc cc, .int .i64 1, .slice none 0 0, .slice none 0 0] 52)) := ⟨_, rfl⟩
   rw [← hw4]
   have k4 : Kpt [w1.heap.size + 1] wr w4 := by rw [hw4]; exact Kpt.trans (Kpt.set _ _ _ _ _ (by simp)) (Kpt.alloc [] _ _) (fun x hx => by cases hx)
   have hx4 : w4.heap[w1.heap.size + 1]? = some (.cells #[.slice (some ⟨wr.heap.size, 0, none⟩) 1 1] 24 (0, 0)) := by rw [hw4, (below_alM _ _).block _ (by simp; omega), heap_setCell_same _ _ 0 _ _ _ HA.out]; rfl
   have hc4 : w4.heap[wr.heap.size]? = some (.cells #[.string ⟨#[67]⟩, .string ⟨#[79, 98, 106, 101, 99, 116]⟩, .slice pc nc cc, .int .i64 1, .slice none 0 0, .slice none 0 0] 52 (0, 0)) := by rw [hw4]; have := heap_alloc_new (wr.setCell ⟨w1.heap.size + 1, 0, none⟩ (.slice (some ⟨wr.heap.size, 0, none⟩) 1 1)) (.cells #[.string ⟨#[67]⟩, .string ⟨#[79, 98, 106, 101, 99, 116]⟩, .slice pc nc cc, .int .i64 1, .slice none 0 0, .slice none 0 0] 52); simpa using this
   have hs4 : w4.heap.size = wr.heap.size + 1 := by rw [hw4]; simp
   clear hw4
   have hrc : RdX _ (sP strC) anyB w4 (.slice pc nc cc) _ := (HO.out.kptS k4 (fun g e => by have := (HO.out.lt g e).1; simp; omega)).rd (sP.grow _) |>.step (sP.grow _) (fun _ _ _ => trivial) (fun _ _ _ => rfl) (Nat.le_refl _)
   have hrd := show cP anyB w4 [.string ⟨#[67]⟩, .string ⟨#[79, 98, 106, 101, 99, 116]⟩, .slice pc nc cc, .int .i64 1, .slice none 0 0, .slice none 0 0] (limC (List.replicate e ⟨#[73]⟩) [] []) from ⟨_, _, _, rfl, hrc, RdX.nil _ _ _ _, RdX.nil _ _ _ _⟩
   clear hrc HO
   have hc5 := rd_box (sz := 6) (ok := anyB) (l := [.string ⟨#[67]⟩, .string ⟨#[79, 98, 106, 101, 99, 116]⟩, .slice pc nc cc, .int .i64 1, .slice none 0 0, .slice none 0 0]) hc4 (show cP anyB w4 [.string ⟨#[67]⟩, .string ⟨#[79, 98, 106, 101, 99, 116]⟩, .slice pc nc cc, .int .i64 1, .slice none 0 0, .slice none 0 0] (limC (List.replicate e ⟨#[73]⟩) [] []) from hrd) trivial
   have HRA : Hid (RdX 6 cP anyB w4 (.slice (some ⟨wr.heap.size, 0, none⟩) 1 1) (limA 2 e)) := Lib.hid hc5
   have HB4 := Lib.hid (HB.out.trans (Kpt.below k4 (fun x hx => by simp at hx; omega) (by omega)))
   have HX4 := Lib.hid hx4
   clear hc5 hc4 hx4 k4 hrd HC HA HRC ul u0 uz0 u1 uz1 u2 uz2 u3 uz3 u4 uz4 u5 uz5 al a0 az0
   obtain ⟨al, ac, af⟩ := boxN HX4.out
   have a0 := ac 0 _ rfl
   have az0 := af 0
   simp only [Nat.zero_add] at a0
   clear ac af
   go_wp2_with fail
   refine (put_a (limA 2 e) anyB _ 1 1 w4 (lim_sz _ _) (lim_wf _ _) (fun _ => lim_small (by omega)) (HG.out.below HB4.out (Nat.le_refl _)) HRA.out).mono ?_
   rintro e2 w5 ⟨v, rfl, ho5, hb5⟩
   obtain ⟨q1, n1, c1, rfl⟩ := own_slice ho5
   replace HRA := Lib.hid (HRA.out.any cP.grow hb5)
   replace HB4 := Lib.hid (HB4.out.trans (hb5.mono HB4.out.size))
   replace HX4 := Lib.hid ((hb5.block _ al).trans HX4.out)
   have hlen := ho5.len
   have HO5 := Lib.hid ho5
   have hs5 := hb5.size
   clear ho5 hb5 a0 az0
   go_wp2_with fail
   refine (read_a (.slice q1 n1 c1) (putA (limA 2 e)) w5 HO5.out.rd (lim_len (by omega)) (HG.out.below HB4.out (Nat.le_refl _))).mono ?_
   rintro e3 w6 ⟨hb6, hans⟩
   obtain ⟨a1', c1', e1', hle', -⟩ := hlen
   simp only [Value.slice.injEq] at e1'
   obtain ⟨-, rfl, rfl⟩ := e1'
   clear hle'
   rcases HDM.out with ⟨hd0, hem0⟩ | ⟨hd0, hem0⟩
   ·rw [read_put (by rw [lim_right]; exact decide_eq_true hem0) (lim_wf _ _)] at hans
    obtain ⟨pX, nX, cX, rfl, hrx, -⟩ := hans
    have hpos : (0 : Int) < ((putA (limA 2 e)).length : Int) := by have := lim_pos hem0; omega
    have HRX := Lib.hid hrx
    clear hrx
    replace HRA := Lib.hid (HRA.out.any cP.grow hb6)
    replace HX4 := Lib.hid ((hb6.block _ (by omega)).trans HX4.out)
    replace HB4 := Lib.hid (HB4.out.trans (hb6.mono HB4.out.size))
    have hs6 := hb6.size
    clear hb6 HO5
    go_upto_region 52 with fail
    obtain ⟨w7, hw7⟩ : ∃ x, x = w6.alloc (.cells #[.slice pX nX cX] 24) := ⟨_, rfl⟩
    rw [← hw7]
    have hb7 := below_alM w6 (.cells #[.slice pX nX cX] 24)
    have hx7 := heap_alloc_new w6 (.cells #[.slice pX nX cX] 24)
    rw [← hw7] at hb7 hx7
    clear hw7
    replace HRA := Lib.hid (HRA.out.any cP.grow hb7)
    replace HX4 := Lib.hid ((hb7.block _ (by omega)).trans HX4.out)
    replace HB4 := Lib.hid (HB4.out.trans (hb7.mono HB4.out.size))
    have hs7 := hb7.size
    replace HRX := Lib.hid (HRX.out.any cP.grow hb7)
    have HX7 := Lib.hid hx7
    clear hb7 hx7
    obtain ⟨al4, ac, af⟩ := boxN HX4.out
    have a0 := ac 0 _ rfl
    have az0 := af 0
    simp only [Nat.zero_add] at a0
    clear ac af
    go_wp2_with fail
    refine (right_a (limA 2 e) anyB _ 1 1 w7 (lim_sz _ _) (lim_wf _ _) (fun _ => lim_small (by omega)) (HG.out.below HB4.out (Nat.le_refl _)) HRA.out).mono ?_
    rintro e4 w8 ⟨rfl, hb8⟩
    rw [lim_right, decide_eq_true hem0]
    replace HRA := Lib.hid (HRA.out.any cP.grow hb8)
    replace HX4 := Lib.hid ((hb8.block _ (by omega)).trans HX4.out)
    replace HX7 := Lib.hid ((hb8.block _ (boxN HX7.out).1).trans HX7.out)
    replace HB4 := Lib.hid (HB4.out.trans (hb8.mono HB4.out.size))
    replace HRX := Lib.hid (HRX.out.any cP.grow hb8)
    clear hb8 a0 az0
    obtain ⟨bl, bc, bf⟩ := boxN HX4.out
    have b0 := bc 0 _ rfl
    have bz0 := bf 0
    simp only [Nat.zero_add] at b0
    clear bc bf
    obtain ⟨xl, xc, xf⟩ := boxN HX7.out
    have x0 := xc 0 _ rfl
    have xz0 := xf 0
    simp only [Nat.zero_add] at x0
    clear xc xf
    go_wp2_with fail
    have hbd : bdA (limA 2 e) := formed_bd (by rw [lim_formed]; exact decide_eq_true hem0)
    refine (same_a (limA 2 e) (limA 2 e) _ _ _ _ _ _ _ _ _ hbd hbd HRX.out HRA.out).mono ?_
    rintro e5 w9 ⟨rfl, hb9⟩
    rw [eqA_self]
    replace HB4 := Lib.hid (HB4.out.trans (hb9.mono HB4.out.size))
    clear hb9
    go_wp2_with fail
    go_ret
    exact ⟨rfl, HBW.out.trans (HB4.out.mono HBW.out.size)⟩
   ·have hnil := lim_none hem0
    have hlz : ((putA (limA 2 e)).length : Int) = 0 := by rw [hnil]; rfl
    rw [hnil, show readA [] = .error 21 from rfl] at hans
    simp only at hans
    subst hans
    clear hnil
    replace HRA := Lib.hid (HRA.out.any cP.grow hb6)
    replace HX4 := Lib.hid ((hb6.block _ (by omega)).trans HX4.out)
    replace HB4 := Lib.hid (HB4.out.trans (hb6.mono HB4.out.size))
    have hs6 := hb6.size
    clear hb6 HO5
    go_upto_region 52 with fail
    obtain ⟨w7, hw7⟩ : ∃ x, x = w6.alloc (.cells #[.slice none 0 0] 24) := ⟨_, rfl⟩
    rw [← hw7]
    have hb7 := below_alM w6 (.cells #[.slice none 0 0] 24)
    have hx7 := heap_alloc_new w6 (.cells #[.slice none 0 0] 24)
    rw [← hw7] at hb7 hx7
    clear hw7
    replace HRA := Lib.hid (HRA.out.any cP.grow hb7)
    replace HX4 := Lib.hid ((hb7.block _ (by omega)).trans HX4.out)
    replace HB4 := Lib.hid (HB4.out.trans (hb7.mono HB4.out.size))
    have hs7 := hb7.size
    have HX7 := Lib.hid hx7
    clear hb7 hx7
    obtain ⟨al4, ac, af⟩ := boxN HX4.out
    have a0 := ac 0 _ rfl
    have az0 := af 0
    simp only [Nat.zero_add] at a0
    clear ac af
    go_wp2_with fail
    refine (right_a (limA 2 e) anyB _ 1 1 w7 (lim_sz _ _) (lim_wf _ _) (fun _ => lim_small (by omega)) (HG.out.below HB4.out (Nat.le_refl _)) HRA.out).mono ?_
    rintro e4 w8 ⟨rfl, hb8⟩
    rw [lim_right, decide_eq_false (by omega)]
    replace HRA := Lib.hid (HRA.out.any cP.grow hb8)
    replace HX4 := Lib.hid ((hb8.block _ (by omega)).trans HX4.out)
    replace HX7 := Lib.hid ((hb8.block _ (boxN HX7.out).1).trans HX7.out)
    replace HB4 := Lib.hid (HB4.out.trans (hb8.mono HB4.out.size))
    clear hb8 a0 az0
    go_wp2_with fail
    go_ret
    exact ⟨ret_bool (by simp; omega), HBW.out.trans (HB4.out.mono HBW.out.size)⟩
set_option maxHeartbeats 8000000 in
set_option maxRecDepth 100000 in
theorem lim3_v (a n : Nat) (w : World) (hg : Glob w) (ha : a < 256) (hn : n < 256) (hk : a % 7 = 3) : Calls Tryz.prog 7 #[.int .u8 (a : Int), .int .u8 (n : Int)] w fun e w' => e = .returned (.bool true) ∧ Below w.heap.size w w' := by
 have HG := Lib.hid hg
 clear hg
 have hka : (a : Int) % 7 = 3 := by omega
 obtain ⟨dI, hd⟩ : ∃ dI : Int, (n : Int) % 5 - 2 = dI := ⟨_, rfl⟩
 have hd1 : -2 ≤ dI := by omega
 have hd2 : dI ≤ 2 := by omega
 obtain ⟨e, he⟩ : ∃ e : Nat, (8 : Int) + dI = (e : Int) := ⟨(8 + dI).toNat, by omega⟩
 have hem : e ≤ 10 := by omega
 have hel : 6 ≤ e := by omega
 have hei : (e : Int) ≤ 2002 := by omega
 have hdm : (dI ≤ 0 ∧ e ≤ limMax 3) ∨ (0 < dI ∧ limMax 3 < e) := by show (dI ≤ 0 ∧ e ≤ 8) ∨ (0 < dI ∧ 8 < e); omega
 have HDM := Lib.hid hdm
 clear hdm
 go_enter Tryz.func7, Tryz.ntmps7
 go_wp2_with fail
 refine (known_a w HG.out).mono ?_
 rintro e1 w1 ⟨rfl, hb⟩
 have HBW := Lib.hid hb
 replace HG := Lib.hid (HG.out.below hb (Nat.le_refl _))
 clear hb
 go_upto_region 6 with fail
 obtain ⟨w2, hw2⟩ : ∃ x, x = (w1.alloc (.cells #[.string ⟨#[67]⟩, .string ⟨#[79, 98, 106, 101, 99, 116]⟩, .slice none 0 0, .int .i64 1, .slice none 0 0, .slice none 0 0] 52)).alloc (.cells #[.slice none 0 0] 24) := ⟨_, rfl⟩
 rw [← hw2]
 have HC : Hid (w2.heap[w1.heap.size]? = some (.cells #[.string ⟨#[67]⟩, .string ⟨#[79, 98, 106, 101, 99, 116]⟩, .slice none 0 0, .int .i64 1, .slice none 0 0, .slice none 0 0] 52 (0, 0))) := Lib.hid (by rw [hw2, (below_alM _ _).block _ (by simp)]; exact heap_alloc_new _ _)
 have HA : Hid (w2.heap[w1.heap.size + 1]? = some (.cells #[.slice none 0 0] 24 (0, 0))) := Lib.hid (by rw [hw2]; have := heap_alloc_new (w1.alloc (.cells #[.string ⟨#[67]⟩, .string ⟨#[79, 98, 106, 101, 99, 116]⟩, .slice none 0 0, .int .i64 1, .slice none 0 0, .slice none 0 0] 52)) (.cells #[.slice none 0 0] 24); rwa [World.size_alloc] at this)
 have HB : Hid (Below w1.heap.size w1 w2) := Lib.hid (by rw [hw2]; exact (below_alM _ _).trans ((below_alM _ _).mono (below_alM _ _).size))
 have hs2 : w2.heap.size = w1.heap.size + 2 := by rw [hw2]; simp
 clear hw2
 go_upto_region 35 with fail
 obtain ⟨w3, hw3⟩ : ∃ x, x = w2.alloc (.cells #[.string ⟨#[109]⟩, .slice none 0 0, .int .i64 5, .string ⟨#[]⟩, .bool false, .bool false, .int .i64 0, .slice none 0 0, .slice none 0 0] 59) := ⟨_, rfl⟩
 skip
 have hb3 := below_alM w2 (.cells #[.string ⟨#[109]⟩, .slice none 0 0, .int .i64 5, .string ⟨#[]⟩, .bool false, .bool false, .int .i64 0, .slice none 0 0, .slice none 0 0] 59)
 have hx3 := heap_alloc_new w2 (.cells #[.string ⟨#[109]⟩, .slice none 0 0, .int .i64 5, .string ⟨#[]⟩, .bool false, .bool false, .int .i64 0, .slice none 0 0, .slice none 0 0] 59)
 rw [← hw3] at hb3 hx3
 rw [← hw3]
 rw [hs2] at hx3
 have HM := Lib.hid hx3
 replace HC := Lib.hid ((hb3.block _ (by omega)).trans HC.out)
 replace HA := Lib.hid ((hb3.block _ (by omega)).trans HA.out)
 have hs3 : w3.heap.size = w1.heap.size + 3 := by rw [hw3]; simp; omega
 replace HB := Lib.hid (HB.out.trans (hb3.mono (by omega)))
 clear hb3 hx3 hw3
 go_wp2_with fail
 clear hka
 go_loopw [13] (fun v wr => ∃ (i : Nat) (pc : Option Addr) (nc cc : Nat), v = .int .i64 (i : Int) ∧ i ≤ e ∧ Hid (wr.heap[w1.heap.size + 2]? = some (.cells #[.string ⟨#[109]⟩, .slice pc nc cc, .int .i64 5, .string ⟨#[]⟩, .bool false, .bool false, .int .i64 0, .slice none 0 0, .slice none 0 0] 59 (0, 0))) ∧ Hid (OwnX 2 55 (sP tyC) wr (w1.heap.size + 3) (.slice pc nc cc) (List.replicate i ((1, ⟨#[]⟩) : Ty))) ∧ Hid (wr.heap[w1.heap.size]? = some (.cells #[.string ⟨#[67]⟩, .string ⟨#[79, 98, 106, 101, 99, 116]⟩, .slice none 0 0, .int .i64 1, .slice none 0 0, .slice none 0 0] 52 (0, 0))) ∧ Hid (wr.heap[w1.heap.size + 1]? = some (.cells #[.slice none 0 0] 24 (0, 0))) ∧ Hid (Below w1.heap.size w1 wr) ∧ w1.heap.size + 3 ≤ wr.heap.size) (fun v _ => e - (intOf v).toNat)
 case atStart => exact ⟨0, none, 0, 0, rfl, by omega, HM, Lib.hid (OwnX.nil _ _ _ _ _), HC, HA, HB, by omega⟩
 case round =>
  clear HM HC HA HB
  obtain ⟨i, pc, nc, cc, rfl, hik, HM, HO, HC, HA, HB, hwz⟩ := hrel
  by_cases hlt : i < e
  ·have hlt' : (i : Int) < (e : Int) := by omega
   obtain ⟨ul, uc, uf⟩ := boxN HM.out
   have u1 := uc 1 _ rfl
   have uz1 := uf 1
   simp only [Nat.zero_add] at u1
   clear uc uf
   have HL := Lib.hid (rdX_lits tyC_len wr [(1, ⟨#[]⟩)] #[.int .i64 1, .string ⟨#[]⟩] 55 rfl)
   have HO2 := Lib.hid (HO.out.kptS (.of_below (below_alM wr (.cells #[.int .i64 1, .string ⟨#[]⟩] 55)) : Kpt [] wr _) (fun _ _ => by simp))
   go_upto_region 37 with (at_builtin; refine wp_appM inf_typ shape_typ rfl _ _ rfl (w1.heap.size + 3) _ (List.replicate i (1, ⟨#[]⟩)) rfl HO2.out wr.heap.size 0 1 1 [(1, ⟨#[]⟩)] rfl HL.out (by simp; omega) (by simp; omega) ?_; intro v3 x3 ho3 hg3 hl3; obtain ⟨p3, n3, c3, hv3⟩ := ho3.slice; subst hv3; rw [rep_next] at ho3; have HO3 := Lib.hid ho3; have hHM := (hg3.block _ (by simp; omega) (fun e => by have := (HO.out.lt _ e.symm).1; omega)).trans (((below_alM wr _).block _ (by omega)).trans HM.out); replace HM := Lib.hid hHM; clear hHM; have hHC := (hg3.block _ (by simp; omega) (fun e => by have := (HO.out.lt _ e.symm).1; omega)).trans (((below_alM wr _).block _ (by omega)).trans HC.out); replace HC := Lib.hid hHC; clear hHC; have hHA := (hg3.block _ (by simp; omega) (fun e => by have := (HO.out.lt _ e.symm).1; omega)).trans (((below_alM wr _).block _ (by omega)).trans HA.out); replace HA := Lib.hid hHA; clear hHA; have HG3 := Lib.hid hg3; have HL3 := Lib.hid hl3; clear ho3 hg3 hl3; obtain ⟨xl, xc, xf⟩ := boxN HM.out; have x1 := xc 1 _ rfl; have xz1 := xf 1; simp only [Nat.zero_add] at x1; clear xc xf)
   go_wp2_with fail
   go_roundw
   case rel =>
    have kS : Kpt [w1.heap.size + 2] x3 (x3.setCell ⟨w1.heap.size + 2, 1, none⟩ (.slice p3 n3 c3)) := Kpt.set _ _ _ _ _ (by simp)
    have hz3 := HG3.out.size
    simp only [World.size_alloc] at hz3
    refine ⟨i + 1, p3, n3, c3, by go_num, by omega, Lib.hid (by rw [heap_setCell_same _ _ 1 _ _ _ HM.out]; rfl), Lib.hid (HO3.out.kptS kS (fun g e => by have := (HO3.out.lt g e).1; simp; omega)), Lib.hid ((kS.2 _ (by omega) (by simp)).trans HC.out), Lib.hid ((kS.2 _ (by omega) (by simp)).trans HA.out), Lib.hid ?_, by have := kS.size; omega⟩
    have hbg : Below w1.heap.size (wr.alloc (.cells #[.int .i64 1, .string ⟨#[]⟩] 55)) x3 := ⟨HG3.out.os, HG3.out.tape, HG3.out.output, HG3.out.size, fun q hq => HG3.out.block q (by simp; omega) (fun e => by have := (HO.out.lt _ e.symm).1; omega)⟩
    exact ((HB.out.trans ((below_alM wr _).mono (by omega))).trans hbg).trans (Kpt.below kS (fun x hx => by simp at hx; omega) (by omega))
   case measure => simp [intOf]; omega
  ·obtain rfl : e = i := by omega
   clear hlt
   have HRC := Lib.hid ((HO.out.rd (sP.grow _)).step (ok' := anyB) (sP.grow _) (fun _ _ _ => trivial) (fun _ _ _ => rfl) (Nat.le_refl _))
   obtain ⟨ml, mc, mf⟩ := boxN HM.out
   have m0 := mc 0 _ rfl
   have mz0 := mf 0
   have m1 := mc 1 _ rfl
   have mz1 := mf 1
   have m2 := mc 2 _ rfl
   have mz2 := mf 2
   have m3 := mc 3 _ rfl
   have mz3 := mf 3
   have m4 := mc 4 _ rfl
   have mz4 := mf 4
   have m5 := mc 5 _ rfl
   have mz5 := mf 5
   have m6 := mc 6 _ rfl
   have mz6 := mf 6
   have m7 := mc 7 _ rfl
   have mz7 := mf 7
   have m8 := mc 8 _ rfl
   have mz8 := mf 8
   simp only [Nat.zero_add] at m0 m1 m2 m3 m4 m5 m6 m7 m8
   clear mc mf
   obtain ⟨ql, qc, qf⟩ := boxN HC.out
   have q5 := qc 5 _ rfl
   have qz5 := qf 5
   simp only [Nat.zero_add] at q5
   clear qc qf
   go_upto_region 49 with fail
   obtain ⟨wm, hwm⟩ : ∃ x, x = ((wr.setCell ⟨w1.heap.size, 5, none⟩ (.slice (some ⟨wr.heap.size, 0, none⟩) 1 1)).alloc (.cells #[.string ⟨#[109]⟩, .slice pc nc cc, .int .i64 5, .string ⟨#[]⟩, .bool false, .bool false, .int .i64 0, .slice none 0 0, .slice none 0 0] 59)) := ⟨_, rfl⟩
   rw [← hwm]
   have km : Kpt [w1.heap.size] wr wm := by rw [hwm]; exact Kpt.trans (Kpt.set _ _ _ _ _ (by simp)) (Kpt.alloc [] _ _) (fun x hx => by cases hx)
   have hcm : wm.heap[w1.heap.size]? = some (.cells #[.string ⟨#[67]⟩, .string ⟨#[79, 98, 106, 101, 99, 116]⟩, .slice none 0 0, .int .i64 1, .slice none 0 0, .slice (some ⟨wr.heap.size, 0, none⟩) 1 1] 52 (0, 0)) := by rw [hwm, (below_alM _ _).block _ (by simp; omega), heap_setCell_same _ _ 5 _ _ _ HC.out]; rfl
   have hmm : wm.heap[wr.heap.size]? = some (.cells #[.string ⟨#[109]⟩, .slice pc nc cc, .int .i64 5, .string ⟨#[]⟩, .bool false, .bool false, .int .i64 0, .slice none 0 0, .slice none 0 0] 59 (0, 0)) := by rw [hwm]; have := heap_alloc_new (wr.setCell ⟨w1.heap.size, 5, none⟩ (.slice (some ⟨wr.heap.size, 0, none⟩) 1 1)) (.cells #[.string ⟨#[109]⟩, .slice pc nc cc, .int .i64 5, .string ⟨#[]⟩, .bool false, .bool false, .int .i64 0, .slice none 0 0, .slice none 0 0] 59); simpa using this
   have hsm : wm.heap.size = wr.heap.size + 1 := by rw [hwm]; simp
   clear hwm
   have hom := HO.out.kptS km (fun g e => by have := (HO.out.lt g e).1; simp; omega)
   have hrc : RdX _ (sP tyC) (fun b => w1.heap.size + 3 ≤ b) wm (.slice pc nc cc) _ := hom.rd (sP.grow _)
   have hm1 := rd_box (sz := 9) (ok := fun b => w1.heap.size + 3 ≤ b) (l := [.string ⟨#[109]⟩, .slice pc nc cc, .int .i64 5, .string ⟨#[]⟩, .bool false, .bool false, .int .i64 0, .slice none 0 0, .slice none 0 0]) hmm (show mP (fun b => w1.heap.size + 3 ≤ b) wm [.string ⟨#[109]⟩, .slice pc nc cc, .int .i64 5, .string ⟨#[]⟩, .bool false, .bool false, .int .i64 0, .slice none 0 0, .slice none 0 0] (limM (List.replicate e (1, ⟨#[]⟩)) 0 [] []) from ⟨_, _, _, rfl, hrc, RdX.nil _ _ _ _, RdX.nil _ _ _ _⟩) (by show w1.heap.size + 3 ≤ wr.heap.size; omega)
   have HMR := Lib.hid hm1
   replace HA := Lib.hid ((km.2 _ (by omega) (by simp)).trans HA.out)
   replace HC := Lib.hid hcm
   replace HB := Lib.hid (HB.out.trans (Kpt.below km (fun x hx => by simp at hx; omega) (by omega)))
   obtain ⟨tm, htm⟩ : ∃ x, x = wr.heap.size := ⟨_, rfl⟩
   rw [← htm] at HMR HC
   clear hmm hcm hom hrc hm1 HM HO km ml ql q5 qz5 m0 mz0 m1 mz1 m2 mz2 m3 mz3 m4 mz4 m5 mz5 m6 mz6 m7 mz7 m8 mz8
   have hwz2 : w1.heap.size + 3 ≤ wm.heap.size := by omega
   clear htm hsm hwz
   skip
   obtain ⟨ul, uc, uf⟩ := boxN HC.out
   have u0 := uc 0 _ rfl
   have uz0 := uf 0
   have u1 := uc 1 _ rfl
   have uz1 := uf 1
   have u2 := uc 2 _ rfl
   have uz2 := uf 2
   have u3 := uc 3 _ rfl
   have uz3 := uf 3
   have u4 := uc 4 _ rfl
   have uz4 := uf 4
   have u5 := uc 5 _ rfl
   have uz5 := uf 5
   simp only [Nat.zero_add] at u0 u1 u2 u3 u4 u5
   clear uc uf
   obtain ⟨al, ac, af⟩ := boxN HA.out
   have a0 := ac 0 _ rfl
   have az0 := af 0
   simp only [Nat.zero_add] at a0
   clear ac af
   go_upto_region 50 with fail
   obtain ⟨w4, hw4⟩ : ∃ x, x = ((wm.setCell ⟨w1.heap.size + 1, 0, none⟩ (.slice (some ⟨wm.heap.size, 0, none⟩) 1 1)).alloc (.cells #[.string ⟨#[67]⟩, .string ⟨#[79, 98, 106, 101, 99, 116]⟩, .slice none 0 0, .int .i64 1, .slice none 0 0, .slice (some ⟨tm, 0, none⟩) 1 1] 52)) := ⟨_, rfl⟩
   rw [← hw4]
   have k4 : Kpt [w1.heap.size + 1] wm w4 := by rw [hw4]; exact Kpt.trans (Kpt.set _ _ _ _ _ (by simp)) (Kpt.alloc [] _ _) (fun x hx => by cases hx)
   have hx4 : w4.heap[w1.heap.size + 1]? = some (.cells #[.slice (some ⟨wm.heap.size, 0, none⟩) 1 1] 24 (0, 0)) := by rw [hw4, (below_alM _ _).block _ (by simp; omega), heap_setCell_same _ _ 0 _ _ _ HA.out]; rfl
   have hc4 : w4.heap[wm.heap.size]? = some (.cells #[.string ⟨#[67]⟩, .string ⟨#[79, 98, 106, 101, 99, 116]⟩, .slice none 0 0, .int .i64 1, .slice none 0 0, .slice (some ⟨tm, 0, none⟩) 1 1] 52 (0, 0)) := by rw [hw4]; have := heap_alloc_new (wm.setCell ⟨w1.heap.size + 1, 0, none⟩ (.slice (some ⟨wm.heap.size, 0, none⟩) 1 1)) (.cells #[.string ⟨#[67]⟩, .string ⟨#[79, 98, 106, 101, 99, 116]⟩, .slice none 0 0, .int .i64 1, .slice none 0 0, .slice (some ⟨tm, 0, none⟩) 1 1] 52); simpa using this
   have hs4 : w4.heap.size = wm.heap.size + 1 := by rw [hw4]; simp
   clear hw4
   have hrd := show cP anyB w4 [.string ⟨#[67]⟩, .string ⟨#[79, 98, 106, 101, 99, 116]⟩, .slice none 0 0, .int .i64 1, .slice none 0 0, .slice (some ⟨tm, 0, none⟩) 1 1] (limC [] [] [limM (List.replicate e (1, ⟨#[]⟩)) 0 [] []]) from ⟨_, _, _, rfl, RdX.nil _ _ _ _, RdX.nil _ _ _ _, HMR.out.step mP.grow (fun _ _ _ => trivial) (.of_kpt k4 (fun b (hb : w1.heap.size + 3 ≤ b) => by simp; omega)) k4.size⟩
   clear HMR
   have hc5 := rd_box (sz := 6) (ok := anyB) (l := [.string ⟨#[67]⟩, .string ⟨#[79, 98, 106, 101, 99, 116]⟩, .slice none 0 0, .int .i64 1, .slice none 0 0, .slice (some ⟨tm, 0, none⟩) 1 1]) hc4 (show cP anyB w4 [.string ⟨#[67]⟩, .string ⟨#[79, 98, 106, 101, 99, 116]⟩, .slice none 0 0, .int .i64 1, .slice none 0 0, .slice (some ⟨tm, 0, none⟩) 1 1] (limC [] [] [limM (List.replicate e (1, ⟨#[]⟩)) 0 [] []]) from hrd) trivial
   have HRA : Hid (RdX 6 cP anyB w4 (.slice (some ⟨wm.heap.size, 0, none⟩) 1 1) (limA 3 e)) := Lib.hid hc5
   have HB4 := Lib.hid (HB.out.trans (Kpt.below k4 (fun x hx => by simp at hx; omega) (by omega)))
   have HX4 := Lib.hid hx4
   clear hc5 hc4 hx4 k4 hrd HC HA HRC ul u0 uz0 u1 uz1 u2 uz2 u3 uz3 u4 uz4 u5 uz5 al a0 az0
   obtain ⟨al, ac, af⟩ := boxN HX4.out
   have a0 := ac 0 _ rfl
   have az0 := af 0
   simp only [Nat.zero_add] at a0
   clear ac af
   go_wp2_with fail
   refine (put_a (limA 3 e) anyB _ 1 1 w4 (lim_sz _ _) (lim_wf _ _) (fun _ => lim_small (by omega)) (HG.out.below HB4.out (Nat.le_refl _)) HRA.out).mono ?_
   rintro e2 w5 ⟨v, rfl, ho5, hb5⟩
   obtain ⟨q1, n1, c1, rfl⟩ := own_slice ho5
   replace HRA := Lib.hid (HRA.out.any cP.grow hb5)
   replace HB4 := Lib.hid (HB4.out.trans (hb5.mono HB4.out.size))
   replace HX4 := Lib.hid ((hb5.block _ al).trans HX4.out)
   have hlen := ho5.len
   have HO5 := Lib.hid ho5
   have hs5 := hb5.size
   clear ho5 hb5 a0 az0
   go_wp2_with fail
   refine (read_a (.slice q1 n1 c1) (putA (limA 3 e)) w5 HO5.out.rd (lim_len (by omega)) (HG.out.below HB4.out (Nat.le_refl _))).mono ?_
   rintro e3 w6 ⟨hb6, hans⟩
   obtain ⟨a1', c1', e1', hle', -⟩ := hlen
   simp only [Value.slice.injEq] at e1'
   obtain ⟨-, rfl, rfl⟩ := e1'
   clear hle'
   rcases HDM.out with ⟨hd0, hem0⟩ | ⟨hd0, hem0⟩
   ·rw [read_put (by rw [lim_right]; exact decide_eq_true hem0) (lim_wf _ _)] at hans
    obtain ⟨pX, nX, cX, rfl, hrx, -⟩ := hans
    have hpos : (0 : Int) < ((putA (limA 3 e)).length : Int) := by have := lim_pos hem0; omega
    have HRX := Lib.hid hrx
    clear hrx
    replace HRA := Lib.hid (HRA.out.any cP.grow hb6)
    replace HX4 := Lib.hid ((hb6.block _ (by omega)).trans HX4.out)
    replace HB4 := Lib.hid (HB4.out.trans (hb6.mono HB4.out.size))
    have hs6 := hb6.size
    clear hb6 HO5
    go_upto_region 52 with fail
    obtain ⟨w7, hw7⟩ : ∃ x, x = w6.alloc (.cells #[.slice pX nX cX] 24) := ⟨_, rfl⟩
    rw [← hw7]
    have hb7 := below_alM w6 (.cells #[.slice pX nX cX] 24)
    have hx7 := heap_alloc_new w6 (.cells #[.slice pX nX cX] 24)
    rw [← hw7] at hb7 hx7
    clear hw7
    replace HRA := Lib.hid (HRA.out.any cP.grow hb7)
    replace HX4 := Lib.hid ((hb7.block _ (by omega)).trans HX4.out)
    replace HB4 := Lib.hid (HB4.out.trans (hb7.mono HB4.out.size))
    have hs7 := hb7.size
    replace HRX := Lib.hid (HRX.out.any cP.grow hb7)
    have HX7 := Lib.hid hx7
    clear hb7 hx7
    obtain ⟨al4, ac, af⟩ := boxN HX4.out
    have a0 := ac 0 _ rfl
    have az0 := af 0
    simp only [Nat.zero_add] at a0
    clear ac af
    go_wp2_with fail
    refine (right_a (limA 3 e) anyB _ 1 1 w7 (lim_sz _ _) (lim_wf _ _) (fun _ => lim_small (by omega)) (HG.out.below HB4.out (Nat.le_refl _)) HRA.out).mono ?_
    rintro e4 w8 ⟨rfl, hb8⟩
    rw [lim_right, decide_eq_true hem0]
    replace HRA := Lib.hid (HRA.out.any cP.grow hb8)
    replace HX4 := Lib.hid ((hb8.block _ (by omega)).trans HX4.out)
    replace HX7 := Lib.hid ((hb8.block _ (boxN HX7.out).1).trans HX7.out)
    replace HB4 := Lib.hid (HB4.out.trans (hb8.mono HB4.out.size))
    replace HRX := Lib.hid (HRX.out.any cP.grow hb8)
    clear hb8 a0 az0
    obtain ⟨bl, bc, bf⟩ := boxN HX4.out
    have b0 := bc 0 _ rfl
    have bz0 := bf 0
    simp only [Nat.zero_add] at b0
    clear bc bf
    obtain ⟨xl, xc, xf⟩ := boxN HX7.out
    have x0 := xc 0 _ rfl
    have xz0 := xf 0
    simp only [Nat.zero_add] at x0
    clear xc xf
    go_wp2_with fail
    have hbd : bdA (limA 3 e) := formed_bd (by rw [lim_formed]; exact decide_eq_true hem0)
    refine (same_a (limA 3 e) (limA 3 e) _ _ _ _ _ _ _ _ _ hbd hbd HRX.out HRA.out).mono ?_
    rintro e5 w9 ⟨rfl, hb9⟩
    rw [eqA_self]
    replace HB4 := Lib.hid (HB4.out.trans (hb9.mono HB4.out.size))
    clear hb9
    go_wp2_with fail
    go_ret
    exact ⟨rfl, HBW.out.trans (HB4.out.mono HBW.out.size)⟩
   ·have hnil := lim_none hem0
    have hlz : ((putA (limA 3 e)).length : Int) = 0 := by rw [hnil]; rfl
    rw [hnil, show readA [] = .error 21 from rfl] at hans
    simp only at hans
    subst hans
    clear hnil
    replace HRA := Lib.hid (HRA.out.any cP.grow hb6)
    replace HX4 := Lib.hid ((hb6.block _ (by omega)).trans HX4.out)
    replace HB4 := Lib.hid (HB4.out.trans (hb6.mono HB4.out.size))
    have hs6 := hb6.size
    clear hb6 HO5
    go_upto_region 52 with fail
    obtain ⟨w7, hw7⟩ : ∃ x, x = w6.alloc (.cells #[.slice none 0 0] 24) := ⟨_, rfl⟩
    rw [← hw7]
    have hb7 := below_alM w6 (.cells #[.slice none 0 0] 24)
    have hx7 := heap_alloc_new w6 (.cells #[.slice none 0 0] 24)
    rw [← hw7] at hb7 hx7
    clear hw7
    replace HRA := Lib.hid (HRA.out.any cP.grow hb7)
    replace HX4 := Lib.hid ((hb7.block _ (by omega)).trans HX4.out)
    replace HB4 := Lib.hid (HB4.out.trans (hb7.mono HB4.out.size))
    have hs7 := hb7.size
    have HX7 := Lib.hid hx7
    clear hb7 hx7
    obtain ⟨al4, ac, af⟩ := boxN HX4.out
    have a0 := ac 0 _ rfl
    have az0 := af 0
    simp only [Nat.zero_add] at a0
    clear ac af
    go_wp2_with fail
    refine (right_a (limA 3 e) anyB _ 1 1 w7 (lim_sz _ _) (lim_wf _ _) (fun _ => lim_small (by omega)) (HG.out.below HB4.out (Nat.le_refl _)) HRA.out).mono ?_
    rintro e4 w8 ⟨rfl, hb8⟩
    rw [lim_right, decide_eq_false (by omega)]
    replace HRA := Lib.hid (HRA.out.any cP.grow hb8)
    replace HX4 := Lib.hid ((hb8.block _ (by omega)).trans HX4.out)
    replace HX7 := Lib.hid ((hb8.block _ (boxN HX7.out).1).trans HX7.out)
    replace HB4 := Lib.hid (HB4.out.trans (hb8.mono HB4.out.size))
    clear hb8 a0 az0
    go_wp2_with fail
    go_ret
    exact ⟨ret_bool (by simp; omega), HBW.out.trans (HB4.out.mono HBW.out.size)⟩
end Go.Proofs.YtijnimjmimeefaaGreat.A
