/- WireMost: a number is read up to the most, and not above: for every number, every text. -/
import Derived.Test.YtpkkehgbnhjnaaaPlain
namespace Go.Proofs.Ytpkkehgbnhjnaaa
open Go.RowKit

theorem most_num {M : Nat} (hM : M ≤ 9223372036854775807) : numR (nb M) 0 0 (cnt (M : Int)) = (M, (nb M).length, 0) := by
  have := numR_nb (bs := nb M) (l := []) (k := 0) (u := M) (m := M) (by simp) hM
  rw [cnt_nat, this, if_neg (by omega), Nat.zero_add]

theorem most_pred {M : Nat} (hM : M ≤ 9223372036854775807) (h0 : 0 < M) : numR (nb M) 0 0 (cnt ((M : Int) - 1)) = (0, 0, 22) := by
  have := numR_nb (bs := nb M) (l := []) (k := 0) (u := M) (m := M - 1) (by simp) hM
  rw [cnt_pred, this, if_pos (by omega)]

theorem most_text {t : List UInt8} (h : t.length ≤ 100) : textR (nb t.length ++ t) 0 0 (cnt (t.length : Int)) = (t, (nb t.length ++ t).length, 0) := by
  have := textR_nb (bs := nb t.length ++ t) (l := []) (t := t) (k := 0) (m := t.length) (by simp) (by omega)
  rw [cnt_nat, this, if_neg (by omega), Nat.zero_add, List.length_append]

theorem most_text_pred {t : List UInt8} (h : t.length ≤ 100) (h0 : 0 < t.length) : textR (nb t.length ++ t) 0 0 (cnt ((t.length : Int) - 1)) = ([], 0, 22) := by
  have := textR_nb (bs := nb t.length ++ t) (l := []) (t := t) (k := 0) (m := t.length - 1) (by simp) (by omega)
  rw [cnt_pred, this, if_pos (by omega)]

set_option maxHeartbeats 400000 in
set_option maxRecDepth 100000 in
theorem most_long (n : Int) (s : ByteArray) (w : World) (hs : 100 < s.size) :
    Calls Try.prog 7 #[.int .i64 n, .string s] w fun e w' => e = .returned (.bool true) ∧ Below w.heap.size w w' := by
  go_enter Try.func7, Try.ntmps7
  go_wp2_with fail
  refine (known_any _).mono ?_
  rintro e w1 ⟨rfl, hb1⟩
  go_wp2
  go_ret
  exact ⟨rfl, hb1⟩

set_option maxHeartbeats 1000000 in
set_option maxRecDepth 100000 in
theorem most_pos (n : Int) (s : ByteArray) (w : World) (hn : 0 ≤ n) (hn2 : n ≤ 9223372036854775807) (hn1 : -9223372036854775808 ≤ n) (hs : s.size ≤ 100) (ky ey kq eq : Nat)
    (hx : numR (nb (cnt n)) 0 0 (cnt n) = (cnt n, (nb (cnt n)).length, 0)) (hy : numR (nb (cnt n)) 0 0 (cnt (n - 1)) = (0, ky, ey)) (hey : n = 0 ∨ ey = 22) (hey2 : ey < 100)
    (hq : textR (nb s.size ++ sb s) 0 0 (cnt ((s.size : Int) - 1)) = ([], kq, eq)) (heq : s.size = 0 ∨ eq = 22) (heq2 : eq < 100) :
    Calls Try.prog 7 #[.int .i64 n, .string s] w fun e w' => e = .returned (.bool true) ∧ Below w.heap.size w w' := by
  have hp : textR (nb s.size ++ sb s) 0 0 (cnt (s.size : Int)) = (sb s, (nb s.size ++ sb s).length, 0) := by
    have := most_text (t := sb s) (by rw [sb_len]; omega)
    rwa [sb_len] at this
  have hl1 := nb_len10 (toNat_u64 (z := n) (by omega)).out
  have hl2 : (nb s.size ++ sb s).length ≤ 110 := by
    have := nb_len10 (u64_of_le hs (by decide)).out
    rw [List.length_append, sb_len]; omega
  have hcM : ((cnt n : Nat) : Int) = n := by unfold cnt; omega
  have HX := Lib.hid hx
  have HY := Lib.hid hy
  have HEY := Lib.hid hey
  have HP := Lib.hid hp
  have HQ := Lib.hid hq
  have HEQ := Lib.hid heq
  have HCM := Lib.hid hcM
  clear hx hy hey hp hq heq hcM
  go_enter Try.func7, Try.ntmps7
  go_wp2_with fail
  refine (known_any _).mono ?_
  rintro e w1 ⟨rfl, hB1⟩
  have hs1 := hB1.size
  go_wp2_with fail
  refine (num_any (.slice none 0 0) _ [] [n] _ (rd_nil _) (.inl rfl) (by simp) (rdI_new1 w1 (n) _ (by omega) (by omega)) (.inr fun g hg => by cases hg; simp) (by simp)).mono ?_
  rintro e w2 ⟨v2, rfl, ho2, hb2⟩
  have hB2 : Below w.heap.size w w2 := (hB1.alloc hs1 _).trans (hb2.mono (by simp; omega))
  have hs2 := hB2.size
  rw [List.nil_append, nums_one] at ho2
  clear hb2 hB1 hs1
  go_wp2_with fail
  refine (new_any v2 _ _ ho2.rd (.inr fun g hg => (ho2.lt g hg).2) (by omega)).mono ?_
  rintro e w3 ⟨r, rfl, hr3, hb3⟩
  have hB3 : Below w.heap.size w w3 := hB2.trans (hb3.mono hs2)
  have hrb : w.heap.size ≤ r := Nat.le_trans hs2 hr3.1
  have ho3 := ho2.below hb3 (fun g hg => (ho2.lt g hg).2)
  have hs3 := hB3.size
  have hrl : r < w3.heap.size := hr3.lt
  clear hb3 ho2 hB2 hs2
  go_wp2_with fail
  refine (new_any v2 _ _ ho3.rd (.inr fun g hg => (ho3.lt g hg).2) (by omega)).mono ?_
  rintro e w4 ⟨t, rfl, ht4, hb4⟩
  have hB4 : Below w.heap.size w w4 := hB3.trans (hb4.mono hs3)
  have htb : w.heap.size ≤ t := Nat.le_trans hs3 ht4.1
  have hrt : r < t := Nat.lt_of_lt_of_le hrl ht4.1
  have hr4 := hr3.below hb4 (Nat.le_refl _)
  have hs4 := hB4.size
  have hrl4 : r < w4.heap.size := hr4.lt
  clear hb4 ho3 hr3 hB3 hs3
  go_wp2_with fail
  refine (rnum_at HX.out hr4 (by decide) (by omega) (by omega) (by omega)).mono ?_
  rintro e w5 ⟨rfl, hg5⟩
  have hB5 : Below w.heap.size w w5 := hB4.trans (hg5.below hs4 hrb)
  have hr5 := hg5.1
  have ht5 := ht4.other hg5 hrl
  have hs5 := hB5.size
  rw [HCM.out]
  clear hg5 ht4 hr4 hB4 hs4 hrl4
  go_wp2_with fail
  refine (rnum_at HY.out ht5 (by decide) (by omega) (by omega) (by omega)).mono ?_
  rintro e w6 ⟨rfl, hg6⟩
  have hB6 : Below w.heap.size w w6 := hB5.trans (hg6.below hs5 htb)
  have ht6 := hg6.1
  have hr6 := hr5.other2 hg6 hrt
  have hs6 := hB6.size
  clear hg6 ht5 hr5 hB5 hs5
  go_wp2_with fail
  refine (text_any (.slice none 0 0) [] s _ (rd_nil _) (.inl rfl) (by simp) (by omega)).mono ?_
  rintro e w7 ⟨v7, rfl, ho7, hb7⟩
  have hB7 : Below w.heap.size w w7 := hB6.trans (hb7.mono hs6)
  have hs7 := hB7.size
  have hr7 := hr6.below hb7 (Nat.le_refl _)
  have ht7 := ht6.below hb7 (Nat.le_refl _)
  rw [List.nil_append] at ho7
  clear hb7 hr6 ht6 hB6 hs6
  go_wp2_with fail
  refine (new_any v7 _ _ ho7.rd (.inr fun g hg => (ho7.lt g hg).2) (by omega)).mono ?_
  rintro e w8 ⟨u, rfl, hu8, hb8⟩
  have hB8 : Below w.heap.size w w8 := hB7.trans (hb8.mono hs7)
  have hub : w.heap.size ≤ u := Nat.le_trans hs7 hu8.1
  have hru : r < u := Nat.lt_of_lt_of_le hr7.lt hu8.1
  have htu : t < u := Nat.lt_of_lt_of_le ht7.lt hu8.1
  have hr8 := hr7.below hb8 (Nat.le_refl _)
  have ht8 := ht7.below hb8 (Nat.le_refl _)
  have hs8 := hB8.size
  clear hb8 ho7 hr7 ht7 hB7 hs7
  go_wp2_with fail
  refine (text_any (.slice none 0 0) [] s _ (rd_nil _) (.inl rfl) (by simp) (by omega)).mono ?_
  rintro e w9 ⟨v9, rfl, ho9, hb9⟩
  have hB9 : Below w.heap.size w w9 := hB8.trans (hb9.mono hs8)
  have hs9 := hB9.size
  have hr9 := hr8.below hb9 (Nat.le_refl _)
  have ht9 := ht8.below hb9 (Nat.le_refl _)
  have hu9 := hu8.below hb9 (Nat.le_refl _)
  rw [List.nil_append] at ho9
  clear hb9 hr8 ht8 hu8 hB8 hs8
  go_wp2_with fail
  refine (new_any v9 _ _ ho9.rd (.inr fun g hg => (ho9.lt g hg).2) (by omega)).mono ?_
  rintro e w10 ⟨x, rfl, hx10, hb10⟩
  have hB10 : Below w.heap.size w w10 := hB9.trans (hb10.mono hs9)
  have hxb : w.heap.size ≤ x := Nat.le_trans hs9 hx10.1
  have hux9 : u < w9.heap.size := hu9.lt
  have hux : u < x := Nat.lt_of_lt_of_le hux9 hx10.1
  have hr10 := hr9.below hb10 (Nat.le_refl _)
  have ht10 := ht9.below hb10 (Nat.le_refl _)
  have hu10 := hu9.below hb10 (Nat.le_refl _)
  have hs10 := hB10.size
  clear hb10 ho9 hr9 ht9 hu9 hB9 hs9
  go_wp2_with fail
  refine (rtext_at HP.out hu10 (by decide) (by omega) (by omega) (by omega)).mono ?_
  rintro e w11 ⟨rfl, hg11⟩
  have hB11 : Below w.heap.size w w11 := hB10.trans (hg11.below hs10 hub)
  have hu11 := hg11.1
  have hr11 := hr10.other2 hg11 hru
  have ht11 := ht10.other2 hg11 htu
  have hx11 := hx10.other hg11 hux9
  have hs11 := hB11.size
  rw [tx_sb]
  clear hg11 hu10 hr10 ht10 hx10 hB10 hs10
  go_wp2_with fail
  refine (rtext_at HQ.out hx11 (by decide) (by omega) (by omega) (by omega)).mono ?_
  rintro e w12 ⟨rfl, hg12⟩
  have hB12 : Below w.heap.size w w12 := hB11.trans (hg12.below hs11 hxb)
  have hx12 := hg12.1
  have hu12 := hu11.other2 hg12 hux
  have hr12 := hr11.other2 hg12 (Nat.lt_trans hru hux)
  have ht12 := ht11.other2 hg12 (Nat.lt_trans htu hux)
  have hs12 := hB12.size
  rw [show tx [] = { data := #[] } from rfl]
  clear hg12 hu11 hr11 ht11 hx11 hB11 hs11
  go_wp2_with fail
  refine (rdone_any _ _ _ _ _ _ hr12 (by omega)).mono ?_
  rintro e w13 ⟨rfl, n13, rfl⟩
  rw [decide_eq_true (show 0 = 0 ∧ (nb (cnt n)).length = (nb (cnt n)).length from ⟨rfl, rfl⟩)]
  by_cases hz : n = 0
  · have hnb : (n == 0) = true := beq_iff_eq.2 hz
    clear hz
    go_wp2_with fail
    refine (rdone_any _ _ _ _ _ _ (hu12.drewN n13) (by omega)).mono ?_
    rintro e w14 ⟨rfl, n14, rfl⟩
    rw [decide_eq_true (show 0 = 0 ∧ (nb s.size ++ sb s).length = (nb s.size ++ sb s).length from ⟨rfl, rfl⟩)]
    by_cases hse : s.size = 0
    · have hsn : s = { data := #[] } := empty_of_size hse
      go_wp2
      go_ret
      exact ⟨rfl, below_drewN' hB12 _⟩
    · have he22 : eq = 22 := by have := HEQ.out; omega
      subst he22
      go_wp2_with fail
      · go_ret
        exact ⟨rfl, below_drewN' hB12 _⟩
      · refine (rerr_any _ _ _ _ _ _ (hx12.drewN _)).mono ?_
        rintro e w15 ⟨rfl, rfl⟩
        go_wp2
        go_ret
        exact ⟨rfl, below_drewN' hB12 _⟩
  · have hnb : (n == 0) = false := beq_eq_false_iff_ne.2 hz
    have hey22 : ey = 22 := by have := HEY.out; omega
    subst hey22
    clear hz
    go_wp2_with fail
    refine (rerr_any _ _ _ _ _ _ (ht12.drewN n13)).mono ?_
    rintro e w13 ⟨rfl, rfl⟩
    go_wp2_with fail
    refine (rdone_any _ _ _ _ _ _ (hu12.drewN n13) (by omega)).mono ?_
    rintro e w14 ⟨rfl, n14, rfl⟩
    rw [decide_eq_true (show 0 = 0 ∧ (nb s.size ++ sb s).length = (nb s.size ++ sb s).length from ⟨rfl, rfl⟩)]
    by_cases hse : s.size = 0
    · have hsn : s = { data := #[] } := empty_of_size hse
      go_wp2
      go_ret
      exact ⟨rfl, below_drewN' hB12 _⟩
    · have he22 : eq = 22 := by have := HEQ.out; omega
      subst he22
      go_wp2_with fail
      · go_ret
        exact ⟨rfl, below_drewN' hB12 _⟩
      · refine (rerr_any _ _ _ _ _ _ (hx12.drewN _)).mono ?_
        rintro e w15 ⟨rfl, rfl⟩
        go_wp2
        go_ret
        exact ⟨rfl, below_drewN' hB12 _⟩

set_option maxHeartbeats 1000000 in
set_option maxRecDepth 100000 in
theorem most_neg (n : Int) (s : ByteArray) (w : World) (hn : n < 0)  (hs : s.size ≤ 100) (ky kq eq : Nat)
    (hx : numR (nb (cnt 0)) 0 0 (cnt 0) = (cnt 0, (nb (cnt 0)).length, 0)) (hy : numR (nb (cnt 0)) 0 0 (cnt (-1)) = (0, ky, 0))
    (hq : textR (nb s.size ++ sb s) 0 0 (cnt ((s.size : Int) - 1)) = ([], kq, eq)) (heq : s.size = 0 ∨ eq = 22) (heq2 : eq < 100) :
    Calls Try.prog 7 #[.int .i64 n, .string s] w fun e w' => e = .returned (.bool true) ∧ Below w.heap.size w w' := by
  have hp : textR (nb s.size ++ sb s) 0 0 (cnt (s.size : Int)) = (sb s, (nb s.size ++ sb s).length, 0) := by
    have := most_text (t := sb s) (by rw [sb_len]; omega)
    rwa [sb_len] at this
  have hl1 := nb_len10 (toNat_u64 (z := 0) (by omega)).out
  have hl2 : (nb s.size ++ sb s).length ≤ 110 := by
    have := nb_len10 (u64_of_le hs (by decide)).out
    rw [List.length_append, sb_len]; omega
  have hcM : ((cnt 0 : Nat) : Int) = 0 := by unfold cnt; omega
  have HX := Lib.hid hx
  have HY := Lib.hid hy
  have HP := Lib.hid hp
  have HQ := Lib.hid hq
  have HEQ := Lib.hid heq
  have HCM := Lib.hid hcM
  clear hx hy hp hq heq hcM
  go_enter Try.func7, Try.ntmps7
  go_wp2_with fail
  refine (known_any _).mono ?_
  rintro e w1 ⟨rfl, hB1⟩
  have hs1 := hB1.size
  go_wp2_with fail
  refine (num_any (.slice none 0 0) _ [] [0] _ (rd_nil _) (.inl rfl) (by simp) (rdI_new1 w1 0 _ (by omega) (by omega)) (.inr fun g hg => by cases hg; simp) (by simp)).mono ?_
  rintro e w2 ⟨v2, rfl, ho2, hb2⟩
  have hB2 : Below w.heap.size w w2 := (hB1.alloc hs1 _).trans (hb2.mono (by simp; omega))
  have hs2 := hB2.size
  rw [List.nil_append, nums_one] at ho2
  clear hb2 hB1 hs1
  go_wp2_with fail
  refine (new_any v2 _ _ ho2.rd (.inr fun g hg => (ho2.lt g hg).2) (by omega)).mono ?_
  rintro e w3 ⟨r, rfl, hr3, hb3⟩
  have hB3 : Below w.heap.size w w3 := hB2.trans (hb3.mono hs2)
  have hrb : w.heap.size ≤ r := Nat.le_trans hs2 hr3.1
  have ho3 := ho2.below hb3 (fun g hg => (ho2.lt g hg).2)
  have hs3 := hB3.size
  have hrl : r < w3.heap.size := hr3.lt
  clear hb3 ho2 hB2 hs2
  go_wp2_with fail
  refine (new_any v2 _ _ ho3.rd (.inr fun g hg => (ho3.lt g hg).2) (by omega)).mono ?_
  rintro e w4 ⟨t, rfl, ht4, hb4⟩
  have hB4 : Below w.heap.size w w4 := hB3.trans (hb4.mono hs3)
  have htb : w.heap.size ≤ t := Nat.le_trans hs3 ht4.1
  have hrt : r < t := Nat.lt_of_lt_of_le hrl ht4.1
  have hr4 := hr3.below hb4 (Nat.le_refl _)
  have hs4 := hB4.size
  have hrl4 : r < w4.heap.size := hr4.lt
  clear hb4 ho3 hr3 hB3 hs3
  go_wp2_with fail
  refine (rnum_at HX.out hr4 (by decide) (by omega) (by omega) (by omega)).mono ?_
  rintro e w5 ⟨rfl, hg5⟩
  have hB5 : Below w.heap.size w w5 := hB4.trans (hg5.below hs4 hrb)
  have hr5 := hg5.1
  have ht5 := ht4.other hg5 hrl
  have hs5 := hB5.size
  rw [HCM.out]
  clear hg5 ht4 hr4 hB4 hs4 hrl4
  go_wp2_with fail
  refine (rnum_at HY.out ht5 (by decide) (by omega) (by omega) (by omega)).mono ?_
  rintro e w6 ⟨rfl, hg6⟩
  have hB6 : Below w.heap.size w w6 := hB5.trans (hg6.below hs5 htb)
  have ht6 := hg6.1
  have hr6 := hr5.other2 hg6 hrt
  have hs6 := hB6.size
  clear hg6 ht5 hr5 hB5 hs5
  go_wp2_with fail
  refine (text_any (.slice none 0 0) [] s _ (rd_nil _) (.inl rfl) (by simp) (by omega)).mono ?_
  rintro e w7 ⟨v7, rfl, ho7, hb7⟩
  have hB7 : Below w.heap.size w w7 := hB6.trans (hb7.mono hs6)
  have hs7 := hB7.size
  have hr7 := hr6.below hb7 (Nat.le_refl _)
  have ht7 := ht6.below hb7 (Nat.le_refl _)
  rw [List.nil_append] at ho7
  clear hb7 hr6 ht6 hB6 hs6
  go_wp2_with fail
  refine (new_any v7 _ _ ho7.rd (.inr fun g hg => (ho7.lt g hg).2) (by omega)).mono ?_
  rintro e w8 ⟨u, rfl, hu8, hb8⟩
  have hB8 : Below w.heap.size w w8 := hB7.trans (hb8.mono hs7)
  have hub : w.heap.size ≤ u := Nat.le_trans hs7 hu8.1
  have hru : r < u := Nat.lt_of_lt_of_le hr7.lt hu8.1
  have htu : t < u := Nat.lt_of_lt_of_le ht7.lt hu8.1
  have hr8 := hr7.below hb8 (Nat.le_refl _)
  have ht8 := ht7.below hb8 (Nat.le_refl _)
  have hs8 := hB8.size
  clear hb8 ho7 hr7 ht7 hB7 hs7
  go_wp2_with fail
  refine (text_any (.slice none 0 0) [] s _ (rd_nil _) (.inl rfl) (by simp) (by omega)).mono ?_
  rintro e w9 ⟨v9, rfl, ho9, hb9⟩
  have hB9 : Below w.heap.size w w9 := hB8.trans (hb9.mono hs8)
  have hs9 := hB9.size
  have hr9 := hr8.below hb9 (Nat.le_refl _)
  have ht9 := ht8.below hb9 (Nat.le_refl _)
  have hu9 := hu8.below hb9 (Nat.le_refl _)
  rw [List.nil_append] at ho9
  clear hb9 hr8 ht8 hu8 hB8 hs8
  go_wp2_with fail
  refine (new_any v9 _ _ ho9.rd (.inr fun g hg => (ho9.lt g hg).2) (by omega)).mono ?_
  rintro e w10 ⟨x, rfl, hx10, hb10⟩
  have hB10 : Below w.heap.size w w10 := hB9.trans (hb10.mono hs9)
  have hxb : w.heap.size ≤ x := Nat.le_trans hs9 hx10.1
  have hux9 : u < w9.heap.size := hu9.lt
  have hux : u < x := Nat.lt_of_lt_of_le hux9 hx10.1
  have hr10 := hr9.below hb10 (Nat.le_refl _)
  have ht10 := ht9.below hb10 (Nat.le_refl _)
  have hu10 := hu9.below hb10 (Nat.le_refl _)
  have hs10 := hB10.size
  clear hb10 ho9 hr9 ht9 hu9 hB9 hs9
  go_wp2_with fail
  refine (rtext_at HP.out hu10 (by decide) (by omega) (by omega) (by omega)).mono ?_
  rintro e w11 ⟨rfl, hg11⟩
  have hB11 : Below w.heap.size w w11 := hB10.trans (hg11.below hs10 hub)
  have hu11 := hg11.1
  have hr11 := hr10.other2 hg11 hru
  have ht11 := ht10.other2 hg11 htu
  have hx11 := hx10.other hg11 hux9
  have hs11 := hB11.size
  rw [tx_sb]
  clear hg11 hu10 hr10 ht10 hx10 hB10 hs10
  go_wp2_with fail
  refine (rtext_at HQ.out hx11 (by decide) (by omega) (by omega) (by omega)).mono ?_
  rintro e w12 ⟨rfl, hg12⟩
  have hB12 : Below w.heap.size w w12 := hB11.trans (hg12.below hs11 hxb)
  have hx12 := hg12.1
  have hu12 := hu11.other2 hg12 hux
  have hr12 := hr11.other2 hg12 (Nat.lt_trans hru hux)
  have ht12 := ht11.other2 hg12 (Nat.lt_trans htu hux)
  have hs12 := hB12.size
  rw [show tx [] = { data := #[] } from rfl]
  clear hg12 hu11 hr11 ht11 hx11 hB11 hs11
  go_wp2_with fail
  refine (rdone_any _ _ _ _ _ _ hr12 (by omega)).mono ?_
  rintro e w13 ⟨rfl, n13, rfl⟩
  rw [decide_eq_true (show 0 = 0 ∧ (nb (cnt 0)).length = (nb (cnt 0)).length from ⟨rfl, rfl⟩)]
  go_wp2_with fail
  refine (rdone_any _ _ _ _ _ _ (hu12.drewN n13) (by omega)).mono ?_
  rintro e w14 ⟨rfl, n14, rfl⟩
  rw [decide_eq_true (show 0 = 0 ∧ (nb s.size ++ sb s).length = (nb s.size ++ sb s).length from ⟨rfl, rfl⟩)]
  by_cases hse : s.size = 0
  · have hsn : s = { data := #[] } := empty_of_size hse
    go_wp2
    go_ret
    exact ⟨rfl, below_drewN' hB12 _⟩
  · have he22 : eq = 22 := by have := HEQ.out; omega
    subst he22
    go_wp2_with fail
    · go_ret
      exact ⟨rfl, below_drewN' hB12 _⟩
    · refine (rerr_any _ _ _ _ _ _ (hx12.drewN _)).mono ?_
      rintro e w15 ⟨rfl, rfl⟩
      go_wp2
      go_ret
      exact ⟨rfl, below_drewN' hB12 _⟩

theorem most_law (n : Int) (s : ByteArray) (w : World) (h1 : -9223372036854775808 ≤ n) (h2 : n ≤ 9223372036854775807) :
    Calls Try.prog 7 #[.int .i64 n, .string s] w fun e w' => e = .returned (.bool true) ∧ Below w.heap.size w w' := by
  by_cases hs : 100 < s.size
  · exact most_long n s w hs
  · obtain ⟨kq, eq, hq, heq, heq2⟩ : ∃ kq eq : Nat, textR (nb s.size ++ sb s) 0 0 (cnt ((s.size : Int) - 1)) = ([], kq, eq) ∧ (s.size = 0 ∨ eq = 22) ∧ eq < 100 := by
      by_cases h0 : s.size = 0
      · have he := empty_of_size h0
        subst he
        exact ⟨1, 0, by rw [show nb (ByteArray.size { data := #[] }) = [0] from nb_small (by decide)]; decide, .inl h0, by decide⟩
      · have := most_text_pred (t := sb s) (by rw [sb_len]; omega) (by rw [sb_len]; omega)
        rw [sb_len] at this
        exact ⟨0, 22, this, .inr rfl, by decide⟩
    by_cases hn : 0 ≤ n
    · obtain ⟨M, rfl⟩ := Int.eq_ofNat_of_zero_le hn
      have hx := most_num (M := M) (by omega)
      by_cases h0 : M = 0
      · subst h0
        refine most_pos _ s w hn h2 h1 (by omega) 1 0 kq eq ?_ ?_ (.inl rfl) (by decide) hq heq heq2
        · rw [cnt_nat] at hx ⊢; exact hx
        · rw [cnt_nat, nb_small (by decide)]; decide
      · have hy := most_pred (M := M) (by omega) (by omega)
        refine most_pos _ s w hn h2 h1 (by omega) 0 22 kq eq ?_ ?_ (.inr rfl) (by decide) hq heq heq2
        · rw [cnt_nat] at hx ⊢; exact hx
        · rw [cnt_nat]; exact hy
    · refine most_neg n s w (by omega) (by omega) 1 kq eq ?_ ?_ hq heq heq2
      · rw [show cnt 0 = 0 from rfl, nb_small (by decide)]; decide
      · rw [show cnt 0 = 0 from rfl, nb_small (by decide)]; decide

end Go.Proofs.Ytpkkehgbnhjnaaa
