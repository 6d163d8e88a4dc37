/- WireWrites holds: for every slice of bytes, every list of numbers, every number, every text the statement of that name answers true, and leaves what was there as it was. No condition. -/
import Derived.Test.YtpkkehgbnhjnaaaLawWrites2
import Derived.Test.YtpkkehgbnhjnaaaBackPlain
import Derived.Test.YtpkkehgbnhjnaaaOpen
import Derived.ProofKit
import Derived.OpenShut
import Derived.ShutString
import Derived.ChangeOld
import Derived.Below
namespace Go.Proofs.Ytpkkehgbnhjnaaa.wireWrites
open Go.ChangeShapes Go.WideShapes Go.ChangeAt Go.RowKit
open Go.ChangeMaps (open_string shut_string)

theorem own : ownKnob Try.prog.godebug = none := by kernel_rfl
theorem laidOut : laidOutB Try.prog = true := by kernel_rfl

theorem walk (a0 : Option Addr) (len0 cap0 : Nat) (a1 : Option Addr) (len1 cap1 : Nat) (a2 : Int) (a3 : ByteArray) (z0 : List Int) (z1 : List Int) (w : World) (w0 : IsRow .u8 w a0 len0 cap0 z0) (w1 : IsRow .i64 w a1 len1 cap1 z1) (w2 : (Lit.int .i32 a2).wf = true) (w3 : a3.size ≤ maxLen) :
    Calls Try.prog 3 #[.slice a0 len0 cap0, .slice a1 len1 cap1, .int .i32 a2, .string a3] w fun e w' => e = .returned (.bool true) ∧ Below w.heap.size w w' := by
  obtain ⟨l, hl, hr⟩ := rd_of_row w0
  have hm0 := row_le w0
  have hm1 := row_le w1
  by_cases hs : 40 < l.length ∨ 20 < len1 ∨ 200 < a3.size
  · exact writes_long _ a1 len1 cap1 a2 a3 l w hr hs hm1 (by omega) (by unfold maxLen at w3; omega)
  · have hv := live_of_row w0 hl
    have hb := bounds_i32 w2
    obtain ⟨zs, hzl, hi⟩ := rdI_of_row w1
    have hvi := live_of_row w1 hzl
    have k10 : Says w 10 #[.slice a0 len0 cap0, .slice a1 len1 cap1] (l ++ nums zs) := fun W hB => num_any _ _ l zs W (hr.below hB hv) (live_below hB hv) (by omega) (hi.below hB hvi) (live_below hB hvi) (by omega)
    have k11 : Says w 11 #[.slice a0 len0 cap0, .slice a1 len1 cap1] (l ++ nums zs) := fun W hB => fnum_any _ _ l zs W (hr.below hB hv) (by omega) (hi.below hB hvi) (live_below hB hvi) (by omega)
    have k12 : Says w 12 #[.slice a0 len0 cap0, .int .i32 a2] (l ++ nb (foldN a2)) := fun W hB => int_any _ l a2 W (hr.below hB hv) (live_below hB hv) (by omega) hb.1 hb.2
    have k13 : Says w 13 #[.slice a0 len0 cap0, .int .i32 a2] (l ++ nb (foldN a2)) := fun W hB => fint_any _ l a2 W (hr.below hB hv) (live_below hB hv) (by omega) hb.1 hb.2
    have k14 : Says w 14 #[.slice a0 len0 cap0, .string a3] (l ++ (nb a3.size ++ sb a3)) := fun W hB => text_any _ l a3 W (hr.below hB hv) (live_below hB hv) (by omega) (by omega)
    have k15 : Says w 15 #[.slice a0 len0 cap0, .string a3] (l ++ (nb a3.size ++ sb a3)) := fun W hB => ftext_any _ l a3 W (hr.below hB hv) (live_below hB hv) (by omega) (by omega)
    have k16 : ∀ y : Int, -9223372036854775808 ≤ y → y ≤ 9223372036854775807 → Says w 16 #[.slice a0 len0 cap0, .int .i64 y] (l ++ two y) := fun y h1 h2 W hB => two_any _ l y W (hr.below hB hv) (live_below hB hv) (by omega) h1 h2
    have k17 : ∀ y : Int, -9223372036854775808 ≤ y → y ≤ 9223372036854775807 → Says w 17 #[.slice a0 len0 cap0, .int .i64 y] (l ++ two y) := fun y h1 h2 W hB => ftwo_any _ l y W (hr.below hB hv) (by omega) h1 h2
    by_cases h0 : len1 = 0
    · exact writes_core _ a1 len1 cap1 a2 a3 l w _ _ _ (by omega) (by omega) (by omega) hr hb.1 hb.2 k10 k11 k12 k13 k14 k15 k16 k17 0 (by decide) (by decide) ⟨h0, rfl⟩
    · obtain ⟨b, off, rfl, hlc, hrow, hwf⟩ := row_some w1 (by omega)
      have hy := bounds_i64 (hwf 0 (by omega))
      exact writes_some _ b off len1 cap1 a2 a3 l w _ _ _ (by omega) (by omega) (by omega) hr hb.1 hb.2 k10 k11 k12 k13 k14 k15 k16 k17 _ hy.1 hy.2 (by omega) (fun W hB => hrow.below (i := 0) hB (by omega))

set_option maxRecDepth 100000 in
theorem lifted (os : Os) (started : os.Started) (H : Type) (enc : TypeId × Value → H) :
    ReturnsInHanded {} Try.checked os 3 .any (Rows.wireWritesSpec.pre6 enc Try.prog Try.f3 Rows.wireWritesRow.domain false) (Rows.wireWritesSpec.post enc Try.prog Try.f3 false true false false) := by
  refine returnsInHanded_of_change (C := Try.checked) own started (by kernel_rfl) Try.func3
    (ChangeSpec.witness6 (enc := enc) (C := Try.checked) false ⟨#[], #[.slice none 0 0, .slice none 0 0, .int .i32 0, .string ByteArray.empty], []⟩ 8 (by kernel_rfl) (by kernel_rfl) (by kernel_rfl) (by kernel_rfl)) ?_
  intro W base args ds gs before hval0 hW hcnd _
  have hval : ∀ (j : Nat) t v, Try.f3.params[j]? = some t → args[j]? = some v → Value.okWide Try.prog W .any base t v := hval0
  have hW' := hW
  obtain ⟨p, q, hA0, hV, rfl, hfz, hnd⟩ := hW
  have hA : DataW.TrodAll enc Try.prog W 0 (fun _ => true) true Try.f3.params.toList args.toList ds p := hA0
  rw [Try.params3] at hA hval
  obtain ⟨v0, vs0, d0, ds0, p0, q0, hargs, rfl, rfl, h0, r0⟩ := trodAll_cons hA
  obtain ⟨v1, vs1, d1, ds1, p1, q1, rfl, rfl, rfl, h1, r1⟩ := trodAll_cons r0
  obtain ⟨v2, vs2, d2, ds2, p2, q2, rfl, rfl, rfl, h2, r2⟩ := trodAll_cons r1
  obtain ⟨v3, vs3, d3, ds3, p3, q3, rfl, rfl, rfl, h3, r3⟩ := trodAll_cons r2
  obtain ⟨rfl, rfl, rfl⟩ := trodAll_nil r3
  obtain rfl : args = #[v0, v1, v2, v3] := by cases args; simp_all
  obtain ⟨rfl, rfl⟩ := trodVars_none hV
  obtain ⟨a0, len0, cap0, rfl⟩ := okWide_slice Try.underlying22 (hval 0 22 v0 rfl rfl)
  have k0 := h0
  have lt0 : ∀ x ∈ p0, x.block < W.heap.size := by obtain ⟨m, hm⟩ := k0; exact DataW.trod_lt m _ _ _ hm
  obtain ⟨z0, w0⟩ := row_open Try.underlying22 Try.underlying5 (by kernel_rfl) h0
  obtain ⟨a1, len1, cap1, rfl⟩ := okWide_slice Try.underlying23 (hval 1 23 v1 rfl rfl)
  have k1 := h1
  have lt1 : ∀ x ∈ p1, x.block < W.heap.size := by obtain ⟨m, hm⟩ := k1; exact DataW.trod_lt m _ _ _ hm
  obtain ⟨z1, w1⟩ := row_open Try.underlying23 Try.underlying3 (by kernel_rfl) h1
  obtain ⟨a2, rfl, rfl, rfl, w2⟩ := open_int Try.underlying21 (hval 2 21 v2 rfl rfl) h2
  obtain ⟨a3, rfl, rfl, rfl, w3⟩ := open_string Try.underlying9 (hval 3 9 v3 rfl rfl) h3
  clear hA0 hval0
  refine (walk a0 len0 cap0 a1 len1 cap1 a2 a3 z0 z1 W w0 w1 w2 w3).mono fun e W' ⟨he, bel⟩ => ?_
  subst he
  exact ⟨_, rfl, _, _, _, [], _, [], hW', trodAll_mk1 (shut_bool Try.underlying4 _), (trodAll_cons_mk (Below.trod laidOut (by kernel_rfl) (of_decide_eq_true (by kernel_rfl)) k0 bel lt0) (trodAll_cons_mk (Below.trod laidOut (by kernel_rfl) (of_decide_eq_true (by kernel_rfl)) k1 bel lt1) (trodAll_cons_mk (shut_int Try.underlying21 w2) (trodAll_cons_mk (shut_string Try.underlying9 w3) trodAll_mk0)))), rfl, bel.frame _, fun h => by cases h⟩

theorem over : Rows.wireWritesRow.holds Try.pinned (OpenSpec.ofChange Rows.wireWritesSpec) :=
  OpenClaim.holds_of_wide 3 Try.f3 rfl rfl rfl rfl rfl rfl rfl ⟨rfl, rfl, rfl, rfl, rfl⟩ rfl rfl rfl rfl rfl (by kernel_rfl) Try.func3 (by kernel_rfl)
    (of_decide_eq_true (by kernel_rfl)) (by unfold Func.isWrapper; first | (rw [if_pos (by decide +kernel)]; kernel_rfl) | (rw [if_neg (by decide +kernel)]; exact ⟨rfl, rfl⟩))
    (fun os started H enc _ => lifted os started H enc)

theorem proved : Rows.WireWritesSaid := over
#print axioms proved
end Go.Proofs.Ytpkkehgbnhjnaaa.wireWrites
