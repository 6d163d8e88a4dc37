/- known answers true. -/
import Derived.Test.YtpkkehgbnhjnaaaText2
namespace Go.Proofs.Ytpkkehgbnhjnaaa
open Go.RowKit

theorem rd_nil (w : World) : Rd w (.slice none 0 0) [] := ⟨none, 0, rfl, Nat.le_refl _, fun _ => rfl, fun a ha => by cases ha⟩

theorem rdI_new1 (w : World) (z : Int) (t : TypeId) (h1 : -9223372036854775808 ≤ z) (h2 : z ≤ 9223372036854775807) : RdI (w.alloc (.cells #[.int .i64 z] t)) (.slice (some ⟨w.heap.size, 0, none⟩) 1 1) [z] := by
  refine ⟨_, 1, rfl, fun a ha _ => (by cases ha; rfl), (fun h => by cases h), fun i x hx => ?_, fun a ha i x hx => ?_⟩
  · match i, hx with
    | 0, hx => simp at hx; subst hx; exact ⟨h1, h2⟩
  · cases ha
    match i, hx with
    | 0, hx => simp at hx; subst hx; simp

/-- the bytes that known writes -/
def kb : List UInt8 := [172, 2, 3, 2, 97, 98, 1, 2, 128]

theorem nb300 : nb 300 = [172, 2] := by rw [nb_big (by decide), nb_small (by decide)]; rfl
theorem nb3 : nb 3 = [3] := nb_small (by decide)
theorem nb2 : nb 2 = [2] := nb_small (by decide)
theorem k_nums : nums [300] = [172, 2] := by
  show nb 300 ++ [] = _
  rw [nb300]; rfl
theorem k_two : two 513 = [1, 2] := by decide
theorem k_r1 : numR kb 0 0 (cnt 300) = (300, 2, 0) := by decide
theorem k_r2 : numR kb 2 0 4294967295 = (3, 3, 0) := by decide
theorem k_r3 : textR kb 3 0 (cnt 2) = ([97, 98], 6, 0) := by decide
theorem k_r4 : rtwoR kb 6 0 (cnt 513) = (513, 8, 0) := by decide
theorem k_r5 : numR kb 8 0 (cnt 9) = (0, 8, 20) := by decide

theorem Rdr.below {w w' : World} {B C rb : Nat} {bs : List UInt8} {k e : Nat} (h : Rdr w B rb bs k e) (hb : Below C w w') (hC : w.heap.size ≤ C) : Rdr w' B rb bs k e := by
  obtain ⟨h1, h2, sl, hx, ho, hn⟩ := h
  have hlt := (Array.getElem?_eq_some_iff.1 hx).1
  exact ⟨h1, h2, sl, by rw [hb.block rb (by omega)]; exact hx, ho.below hb (fun g hg => Nat.lt_of_lt_of_le (ho.lt g hg).2 hC), hn⟩

theorem below_drewN' {B : Nat} {a w : World} (h : Below B a w) (n : Nat) : Below B a (w.drewN n) := ⟨h.os, h.tape, h.output, h.size, h.block⟩

theorem Gone.below {w w' : World} {B rb : Nat} {bs : List UInt8} {k e C : Nat} (h : Gone w w' B rb bs k e) (hC : C ≤ w.heap.size) (hr : C ≤ rb) : Below C w w' :=
  (Below.refl _ _).grown h.2 hC (fun k hk => by cases hk; exact hr)

theorem rnum_at {B rb : Nat} {bs : List UInt8} {k e v k' e' : Nat} {most : Int} {w : World} (hr : numR bs k e (cnt most) = (v, k', e')) (h : Rdr w B rb bs k e) (he : e < 100) (hl : bs.length ≤ 400000) (h1 : -9223372036854775808 ≤ most) (h2 : most ≤ 9223372036854775807) :
    Calls Try.prog 19 #[.pointer (some ⟨rb, 0, none⟩), .int .i64 most] w fun r w' => r = .returned (.int .i64 v) ∧ Gone w w' B rb bs k' e' := by
  refine (rnum_any B rb bs k e most w h he hl h1 h2).mono fun r w' ⟨a, b, c, H, hx, hg⟩ => ?_
  have := H.out
  rw [hr] at this
  simp only [Prod.mk.injEq] at this
  obtain ⟨rfl, rfl, rfl⟩ := this
  exact ⟨hx, hg⟩

theorem rnum_val {B rb : Nat} {bs : List UInt8} {k e v k' e' : Nat} {most x : Int} {w : World} (hr : numR bs k e (cnt most) = (v, k', e')) (hx : (v : Int) = x) (h : Rdr w B rb bs k e) (he : e < 100) (hl : bs.length ≤ 400000) (h1 : -9223372036854775808 ≤ most) (h2 : most ≤ 9223372036854775807) :
    Calls Try.prog 19 #[.pointer (some ⟨rb, 0, none⟩), .int .i64 most] w fun r w' => r = .returned (.int .i64 x) ∧ Gone w w' B rb bs k' e' :=
  (rnum_at hr h he hl h1 h2).mono fun _ _ ⟨h1, h2⟩ => ⟨by rw [h1, hx], h2⟩

theorem rint_at {B rb : Nat} {bs : List UInt8} {k e v k' e' : Nat} {w : World} (hr : numR bs k e 4294967295 = (v, k', e')) (h : Rdr w B rb bs k e) (he : e < 100) (hl : bs.length ≤ 400000) :
    Calls Try.prog 21 #[.pointer (some ⟨rb, 0, none⟩)] w fun r w' => r = .returned (.int .i32 (unfoldN v)) ∧ Gone w w' B rb bs k' e' := by
  refine (rint_any B rb bs k e w h he hl).mono fun r w' ⟨a, b, c, H, hx, hg⟩ => ?_
  have := H.out
  rw [hr] at this
  simp only [Prod.mk.injEq] at this
  obtain ⟨rfl, rfl, rfl⟩ := this
  exact ⟨hx, hg⟩

theorem rint_val {B rb : Nat} {bs : List UInt8} {k e v k' e' : Nat} {x : Int} {w : World} (hr : numR bs k e 4294967295 = (v, k', e')) (hx : unfoldN v = x) (h : Rdr w B rb bs k e) (he : e < 100) (hl : bs.length ≤ 400000) :
    Calls Try.prog 21 #[.pointer (some ⟨rb, 0, none⟩)] w fun r w' => r = .returned (.int .i32 x) ∧ Gone w w' B rb bs k' e' :=
  (rint_at hr h he hl).mono fun _ _ ⟨h1, h2⟩ => ⟨by rw [h1, hx], h2⟩

theorem rtext_at {B rb : Nat} {bs v : List UInt8} {k e k' e' : Nat} {most : Int} {w : World} (hr : textR bs k e (cnt most) = (v, k', e')) (h : Rdr w B rb bs k e) (he : e < 100) (hl : bs.length ≤ 400000) (h1 : -9223372036854775808 ≤ most) (h2 : most ≤ 9223372036854775807) :
    Calls Try.prog 23 #[.pointer (some ⟨rb, 0, none⟩), .int .i64 most] w fun r w' => r = .returned (.string (tx v)) ∧ Gone w w' B rb bs k' e' := by
  refine (rtext_any B rb bs k e most w h he hl h1 h2).mono fun r w' ⟨a, b, c, H, hx, hg⟩ => ?_
  have := H.out
  rw [hr] at this
  simp only [Prod.mk.injEq] at this
  obtain ⟨rfl, rfl, rfl⟩ := this
  exact ⟨hx, hg⟩

theorem rtwo_at {B rb : Nat} {bs : List UInt8} {k e v k' e' : Nat} {most : Int} {w : World} (hr : rtwoR bs k e (cnt most) = (v, k', e')) (h : Rdr w B rb bs k e) (he : e < 100) (hl : bs.length ≤ 400000) (h1 : -9223372036854775808 ≤ most) (h2 : most ≤ 9223372036854775807) :
    Calls Try.prog 25 #[.pointer (some ⟨rb, 0, none⟩), .int .i64 most] w fun r w' => r = .returned (.int .i64 v) ∧ Gone w w' B rb bs k' e' := by
  refine (rtwo_any B rb bs k e most w h he hl h1 h2).mono fun r w' ⟨a, b, c, H, hx, hg⟩ => ?_
  have := H.out
  rw [hr] at this
  simp only [Prod.mk.injEq] at this
  obtain ⟨rfl, rfl, rfl⟩ := this
  exact ⟨hx, hg⟩

set_option maxHeartbeats 1000000 in
set_option maxRecDepth 100000 in
theorem known_any (w : World) : Calls Try.prog 9 #[] w fun e w' => e = .returned (.bool true) ∧ Below w.heap.size w w' := by
  go_enter Try.func9, Try.ntmps9
  go_wp2_with fail
  refine (num_any (.slice none 0 0) _ [] [300] _ (rd_nil _) (.inl rfl) (by simp) (rdI_new1 w 300 _ (by decide) (by decide)) (.inr fun g hg => by cases hg; simp) (by simp)).mono ?_
  rintro e w1 ⟨v1, rfl, ho1, hb1⟩
  have hB1 : Below w.heap.size w w1 := ((Below.refl _ w).alloc (Nat.le_refl _) _).trans (hb1.mono (by simp))
  rw [List.nil_append, k_nums] at ho1
  clear hb1
  go_wp2_with fail
  refine (int_any v1 _ (-2) _ ho1.rd (.inr fun g hg => (ho1.lt g hg).2) (by simp) (by decide) (by decide)).mono ?_
  rintro e w2 ⟨v2, rfl, ho2, hb2⟩
  have hB2 : Below w.heap.size w w2 := hB1.trans (hb2.mono hB1.size)
  rw [show foldN (-2) = 3 from by decide, nb3] at ho2
  clear hb2 ho1 hB1
  go_wp2_with fail
  refine (text_any v2 _ _ _ ho2.rd (.inr fun g hg => (ho2.lt g hg).2) (by simp) (by decide)).mono ?_
  rintro e w3 ⟨v3, rfl, ho3, hb3⟩
  have hB3 : Below w.heap.size w w3 := hB2.trans (hb3.mono hB2.size)
  rw [show nb (ByteArray.size { data := #[97, 98] }) = [2] from nb2, show sb { data := #[97, 98] } = [97, 98] from rfl] at ho3
  clear hb3 ho2 hB2
  go_wp2_with fail
  refine (two_any v3 _ 513 _ ho3.rd (.inr fun g hg => (ho3.lt g hg).2) (by simp) (by decide) (by decide)).mono ?_
  rintro e w4 ⟨v4, rfl, ho4, hb4⟩
  have hB4 : Below w.heap.size w w4 := hB3.trans (hb4.mono hB3.size)
  have hs4 := hb4.size
  rw [k_two] at ho4
  clear hb4 ho3
  go_wp2_with (at_builtin; refine wp_app rfl _ _ rfl w3.heap.size _ _ rfl (ho4.alloc _) _ [128] rfl (rd_new1 _ _ _ _ rfl) ?d1 ?d2 ?_)
  case d1 => simp
  case d2 => simp; omega
  intro v5 w5 ho5 hg5 _
  have hs3 := hB3.size
  have hB5 : Below w.heap.size w w5 := (hB4.alloc hB4.size _).grown hg5 (by simp; omega) (fun k hk => Nat.le_trans hs3 (ho4.lt k hk).1)
  have hs5 : w3.heap.size ≤ w5.heap.size := by have := hg5.size; simp at this; omega
  clear hg5 ho4 hs4 hB4
  go_wp2_with fail
  refine (new_any v5 kb _ ho5.rd (.inr fun g hg => (ho5.lt g hg).2) (by decide)).mono ?_
  rintro e w6 ⟨rb, rfl, hr6, hb6⟩
  have hB6 : Below w.heap.size w w6 := hB5.trans (hb6.mono (by omega))
  have hrb : w.heap.size ≤ rb := Nat.le_trans (by omega) hr6.1
  have hs6 := hB6.size
  clear hb6 ho5 hB5 hs5 hB3 hs3
  go_wp2_with fail
  refine (rnum_at k_r1 hr6 (by decide) (by decide) (by decide) (by decide)).mono ?_
  rintro e w7 ⟨rfl, hg7⟩
  have hB7 : Below w.heap.size w w7 := hB6.trans (hg7.below hs6 hrb)
  have hr7 := hg7.1
  have hs7 := hB7.size
  clear hg7 hr6 hB6 hs6
  go_wp2_with fail
  refine (rint_at k_r2 hr7 (by decide) (by decide)).mono ?_
  rintro e w8 ⟨rfl, hg8⟩
  have hB8 : Below w.heap.size w w8 := hB7.trans (hg8.below hs7 hrb)
  have hr8 := hg8.1
  have hs8 := hB8.size
  clear hg8 hr7 hB7 hs7
  rw [show unfoldN 3 = -2 from by decide]
  go_wp2_with fail
  refine (rtext_at k_r3 hr8 (by decide) (by decide) (by decide) (by decide)).mono ?_
  rintro e w9 ⟨rfl, hg9⟩
  have hB9 : Below w.heap.size w w9 := hB8.trans (hg9.below hs8 hrb)
  have hr9 := hg9.1
  have hs9 := hB9.size
  clear hg9 hr8 hB8 hs8
  rw [show tx [97, 98] = { data := #[97, 98] } from rfl]
  go_wp2_with fail
  refine (rtwo_at k_r4 hr9 (by decide) (by decide) (by decide) (by decide)).mono ?_
  rintro e w10 ⟨rfl, hg10⟩
  have hB10 : Below w.heap.size w w10 := hB9.trans (hg10.below hs9 hrb)
  have hr10 := hg10.1
  have hs10 := hB10.size
  clear hg10 hr9 hB9 hs9
  go_wp2_with fail
  refine (rdone_any _ _ _ _ _ _ hr10 (by decide)).mono ?_
  rintro e w11 ⟨rfl, n11, rfl⟩
  rw [show decide (0 = 0 ∧ 8 = kb.length) = false from by decide]
  go_wp2_with fail
  refine (rnum_at k_r5 (hr10.drewN _) (by decide) (by decide) (by decide) (by decide)).mono ?_
  rintro e w12 ⟨rfl, hg12⟩
  have hg12' := hg12.drewN
  have hB12 : Below w.heap.size w w12 := hB10.trans (hg12'.below hs10 hrb)
  have hr12 := hg12.1
  have hs12 := hB12.size
  clear hg12 hg12' hr10 hB10 hs10
  go_wp2_with fail
  refine (rerr_any _ _ _ _ _ _ hr12).mono ?_
  rintro e w13 ⟨rfl, rfl⟩
  go_wp2_with fail
  refine (num_any (.slice none 0 0) _ [] [300] _ (rd_nil _) (.inl rfl) (by simp) (rdI_new1 w12 300 _ (by decide) (by decide)) (.inr fun g hg => by cases hg; simp) (by simp)).mono ?_
  rintro e w14 ⟨v14, rfl, ho14, hb14⟩
  have hB14 : Below w.heap.size w w14 := (hB12.alloc hs12 _).trans (hb14.mono (by simp; omega))
  rw [List.nil_append, k_nums] at ho14
  have hcv := conv_rd ho14.rd
  rw [show tx [172, 2] = { data := #[172, 2] } from rfl] at hcv
  clear hb14 ho14 hr12 hB12 hs12
  go_wp2
  go_ret
  exact ⟨rfl, hB14⟩

end Go.Proofs.Ytpkkehgbnhjnaaa
