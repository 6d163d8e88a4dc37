/- known answers true. -/
import Derived.Test.YtnpbhpidciiciaaText2
namespace Go.Proofs.Ytnpbhpidciiciaa
open Go.RowKit

theorem rd_nil (w : World) : Rd w (.slice none 0 0) [] := ⟨none, 0, rfl, Nat.le_refl _, fun _ => rfl, fun a ha => by cases ha⟩

theorem rdI_new1 (w : World) (z : Int) (t : TypeId) (h1 : -9223372036854775808 ≤ z) (h2 : z ≤ 9223372036854775807) : RdI (w.alloc (.cells #[.int .i64 z] t)) (.slice (some ⟨w.heap.size, 0, none⟩) 1 1) [z] := by
  refine ⟨_, 1, rfl, fun a ha _ => (by cases ha; rfl), (fun h => by cases h), fun i x hx => ?_, fun a ha i x hx => ?_⟩
  · match i, hx with
    | 0, hx => simp at hx; subst hx; exact ⟨h1, h2⟩
  · cases ha
    match i, hx with
    | 0, hx => simp at hx; subst hx; simp

/-- the bytes that known writes -/
def kb : List UInt8 := [172, 2, 3, 2, 97, 98, 1, 2, 128]

theorem nb300 : nb 300 = [172, 2] := by rw [nb_big (by decide), nb_small (by decide)]; rfl
theorem nb3 : nb 3 = [3] := nb_small (by decide)
theorem nb2 : nb 2 = [2] := nb_small (by decide)
theorem k_nums : nums [300] = [172, 2] := by
  show nb 300 ++ [] = _
  rw [nb300]; rfl
theorem k_two : two 513 = [1, 2] := by decide
theorem k_r1 : numR kb 0 0 (cnt 300) = (300, 2, 0) := by decide
theorem k_r2 : numR kb 2 0 4294967295 = (3, 3, 0) := by decide
theorem k_r3 : textR kb 3 0 (cnt 2) = ([97, 98], 6, 0) := by decide
theorem k_r4 : rtwoR kb 6 0 (cnt 513) = (513, 8, 0) := by decide
theorem k_r5 : numR kb 8 0 (cnt 9) = (0, 8, 20) := by decide

theorem Rdr.below {w w' : World} {B C rb : Nat} {bs : List UInt8} {k e : Nat} (h : Rdr w B rb bs k e) (hb : Below C w w') (hC : w.heap.size ≤ C) : Rdr w' B rb bs k e := by
  obtain ⟨h1, h2, sl, hx, ho, hn⟩ := h
  have hlt := (Array.getElem?_eq_some_iff.1 hx).1
  exact ⟨h1, h2, sl, by rw [hb.block rb (by omega)]; exact hx, ho.below hb (fun g hg => Nat.lt_of_lt_of_le (ho.lt g hg).2 hC), hn⟩

theorem below_drewN' {B : Nat} {a w : World} (h : Below B a w) (n : Nat) : Below B a (w.drewN n) := ⟨h.os, h.tape, h.output, h.size, h.block⟩

theorem Gone.below {w w' : World} {B rb : Nat} {bs : List UInt8} {k e C : Nat} (h : Gone w w' B rb bs k e) (hC : C ≤ w.heap.size) (hr : C ≤ rb) : Below C w w' :=
  (Below.refl _ _).grown h.2 hC (fun k hk => by cases hk; exact hr)

theorem rnum_at {B rb : Nat} {bs : List UInt8} {k e v k' e' : Nat} {most : Int} {w : World} (hr : numR bs k e (cnt most) = (v, k', e')) (h : Rdr w B rb bs k e) (he : e < 100) (hl : bs.length ≤ 400000) (h1 : -9223372036854775808 ≤ most) (h2 : most ≤ 9223372036854775807) :
    Calls Try.prog 29 #[.pointer (some ⟨rb, 0, none⟩), .int .i64 most] w fun r w' => r = .returned (.int .i64 v) ∧ Gone w w' B rb bs k' e' := by
  refine (rnum_any B rb bs k e most w h he hl h1 h2).mono fun r w' ⟨a, b, c, H, hx, hg⟩ => ?_
  have := H.out
  rw [hr] at this
  simp only [Prod.mk.injEq] at this
  obtain ⟨rfl, rfl, rfl⟩ := this
  exact ⟨hx, hg⟩

theorem rnum_val {B rb : Nat} {bs : List UInt8} {k e v k' e' : Nat} {most x : Int} {w : World} (hr : numR bs k e (cnt most) = (v, k', e')) (hx : (v : Int) = x) (h : Rdr w B rb bs k e) (he : e < 100) (hl : bs.length ≤ 400000) (h1 : -9223372036854775808 ≤ most) (h2 : most ≤ 9223372036854775807) :
    Calls Try.prog 29 #[.pointer (some ⟨rb, 0, none⟩), .int .i64 most] w fun r w' => r = .returned (.int .i64 x) ∧ Gone w w' B rb bs k' e' :=
  (rnum_at hr h he hl h1 h2).mono fun _ _ ⟨h1, h2⟩ => ⟨by rw [h1, hx], h2⟩

theorem rtext_at {B rb : Nat} {bs v : List UInt8} {k e k' e' : Nat} {most : Int} {w : World} (hr : textR bs k e (cnt most) = (v, k', e')) (h : Rdr w B rb bs k e) (he : e < 100) (hl : bs.length ≤ 400000) (h1 : -9223372036854775808 ≤ most) (h2 : most ≤ 9223372036854775807) :
    Calls Try.prog 30 #[.pointer (some ⟨rb, 0, none⟩), .int .i64 most] w fun r w' => r = .returned (.string (tx v)) ∧ Gone w w' B rb bs k' e' := by
  refine (rtext_any B rb bs k e most w h he hl h1 h2).mono fun r w' ⟨a, b, c, H, hx, hg⟩ => ?_
  have := H.out
  rw [hr] at this
  simp only [Prod.mk.injEq] at this
  obtain ⟨rfl, rfl, rfl⟩ := this
  exact ⟨hx, hg⟩

end Go.Proofs.Ytnpbhpidciiciaa
