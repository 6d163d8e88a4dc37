/- What of answers. -/
import Derived.Test.YtijbgbggmakfoaaDKeyPlain
namespace Go.Proofs.Ytijbgbggmakfoaa
open Go.RowKit

set_option maxHeartbeats 1000000 in
theorem of2_any (n : Int) (w : World) (h0 : 0 ≤ n) (h1 : n ≤ 255) :
    Calls Try.prog 24 #[.int .u8 n] w fun e w' => e = .returned (.agg #[.int .i64 (ofR n).1, .string (ofR n).2]) ∧ Below w.heap.size w w' := by
  by_cases h : 120 ≤ n
  · by_cases hr0 : n % 5 = 0
    · have HF : Hid (ofR n = ((4, ⟨#[65]⟩) : Ty)) := Lib.hid (by unfold ofR; rw [if_pos h]; rw [if_pos hr0])
      skip
      go_enter Try.func24, Try.ntmps24
      go_wp2_with fail
      refine bodyPost_ret (v := .agg #[.int .i64 (((4, ⟨#[65]⟩) : Ty)).1, .string (((4, ⟨#[65]⟩) : Ty)).2]) (by simp [*, results, Try.results24, go_sem]) rfl ⟨by rw [HF.out], ?_⟩
      repeat (first | exact Below.refl _ _ | assumption | refine Below.setCell (p := ⟨_, _, _⟩) ?_ (by first | (simp; done) | (simp; omega) | omega) _ | refine below_drewN ?_ _ | refine Below.drew ?_ | refine Below.alloc ?_ (by first | (simp; done) | (simp; omega) | omega) _)
    by_cases hr1 : n % 5 = 1
    · have HF : Hid (ofR n = ((4, ⟨#[66]⟩) : Ty)) := Lib.hid (by unfold ofR; rw [if_pos h]; rw [if_neg hr0, if_pos hr1])
      clear hr0
      go_enter Try.func24, Try.ntmps24
      go_wp2_with fail
      refine bodyPost_ret (v := .agg #[.int .i64 (((4, ⟨#[66]⟩) : Ty)).1, .string (((4, ⟨#[66]⟩) : Ty)).2]) (by simp [*, results, Try.results24, go_sem]) rfl ⟨by rw [HF.out], ?_⟩
      repeat (first | exact Below.refl _ _ | assumption | refine Below.setCell (p := ⟨_, _, _⟩) ?_ (by first | (simp; done) | (simp; omega) | omega) _ | refine below_drewN ?_ _ | refine Below.drew ?_ | refine Below.alloc ?_ (by first | (simp; done) | (simp; omega) | omega) _)
    by_cases hr2 : n % 5 = 2
    · have HF : Hid (ofR n = ((4, ⟨#[65, 66]⟩) : Ty)) := Lib.hid (by unfold ofR; rw [if_pos h]; rw [if_neg hr0, if_neg hr1, if_pos hr2])
      clear hr0 hr1
      go_enter Try.func24, Try.ntmps24
      go_wp2_with fail
      refine bodyPost_ret (v := .agg #[.int .i64 (((4, ⟨#[65, 66]⟩) : Ty)).1, .string (((4, ⟨#[65, 66]⟩) : Ty)).2]) (by simp [*, results, Try.results24, go_sem]) rfl ⟨by rw [HF.out], ?_⟩
      repeat (first | exact Below.refl _ _ | assumption | refine Below.setCell (p := ⟨_, _, _⟩) ?_ (by first | (simp; done) | (simp; omega) | omega) _ | refine below_drewN ?_ _ | refine Below.drew ?_ | refine Below.alloc ?_ (by first | (simp; done) | (simp; omega) | omega) _)
    by_cases hr3 : n % 5 = 3
    · have HF : Hid (ofR n = ((4, ⟨#[76]⟩) : Ty)) := Lib.hid (by unfold ofR; rw [if_pos h]; rw [if_neg hr0, if_neg hr1, if_neg hr2, if_pos hr3])
      clear hr0 hr1 hr2
      go_enter Try.func24, Try.ntmps24
      go_wp2_with fail
      refine bodyPost_ret (v := .agg #[.int .i64 (((4, ⟨#[76]⟩) : Ty)).1, .string (((4, ⟨#[76]⟩) : Ty)).2]) (by simp [*, results, Try.results24, go_sem]) rfl ⟨by rw [HF.out], ?_⟩
      repeat (first | exact Below.refl _ _ | assumption | refine Below.setCell (p := ⟨_, _, _⟩) ?_ (by first | (simp; done) | (simp; omega) | omega) _ | refine below_drewN ?_ _ | refine Below.drew ?_ | refine Below.alloc ?_ (by first | (simp; done) | (simp; omega) | omega) _)
    have hr4 : n % 5 = 4 := by omega
    have HF : Hid (ofR n = ((4, ⟨#[73]⟩) : Ty)) := Lib.hid (by unfold ofR; rw [if_pos h]; rw [if_neg hr0, if_neg hr1, if_neg hr2, if_neg hr3])
    clear hr0 hr1 hr2 hr3
    go_enter Try.func24, Try.ntmps24
    go_wp2_with fail
    refine bodyPost_ret (v := .agg #[.int .i64 (((4, ⟨#[73]⟩) : Ty)).1, .string (((4, ⟨#[73]⟩) : Ty)).2]) (by simp [*, results, Try.results24, go_sem]) rfl ⟨by rw [HF.out], ?_⟩
    repeat (first | exact Below.refl _ _ | assumption | refine Below.setCell (p := ⟨_, _, _⟩) ?_ (by first | (simp; done) | (simp; omega) | omega) _ | refine below_drewN ?_ _ | refine Below.drew ?_ | refine Below.alloc ?_ (by first | (simp; done) | (simp; omega) | omega) _)
  · by_cases hr0 : n % 3 = 0
    · have HF : Hid (ofR n = ((1, ⟨#[]⟩) : Ty)) := Lib.hid (by unfold ofR; rw [if_neg h]; rw [if_pos hr0])
      skip
      go_enter Try.func24, Try.ntmps24
      go_wp2_with fail
      refine bodyPost_ret (v := .agg #[.int .i64 (((1, ⟨#[]⟩) : Ty)).1, .string (((1, ⟨#[]⟩) : Ty)).2]) (by simp [*, results, Try.results24, go_sem]) rfl ⟨by rw [HF.out], ?_⟩
      repeat (first | exact Below.refl _ _ | assumption | refine Below.setCell (p := ⟨_, _, _⟩) ?_ (by first | (simp; done) | (simp; omega) | omega) _ | refine below_drewN ?_ _ | refine Below.drew ?_ | refine Below.alloc ?_ (by first | (simp; done) | (simp; omega) | omega) _)
    by_cases hr1 : n % 3 = 1
    · have HF : Hid (ofR n = ((2, ⟨#[]⟩) : Ty)) := Lib.hid (by unfold ofR; rw [if_neg h]; rw [if_neg hr0, if_pos hr1])
      clear hr0
      go_enter Try.func24, Try.ntmps24
      go_wp2_with fail
      refine bodyPost_ret (v := .agg #[.int .i64 (((2, ⟨#[]⟩) : Ty)).1, .string (((2, ⟨#[]⟩) : Ty)).2]) (by simp [*, results, Try.results24, go_sem]) rfl ⟨by rw [HF.out], ?_⟩
      repeat (first | exact Below.refl _ _ | assumption | refine Below.setCell (p := ⟨_, _, _⟩) ?_ (by first | (simp; done) | (simp; omega) | omega) _ | refine below_drewN ?_ _ | refine Below.drew ?_ | refine Below.alloc ?_ (by first | (simp; done) | (simp; omega) | omega) _)
    have hr2 : n % 3 = 2 := by omega
    have HF : Hid (ofR n = ((3, ⟨#[]⟩) : Ty)) := Lib.hid (by unfold ofR; rw [if_neg h]; rw [if_neg hr0, if_neg hr1])
    clear hr0 hr1
    go_enter Try.func24, Try.ntmps24
    go_wp2_with fail
    refine bodyPost_ret (v := .agg #[.int .i64 (((3, ⟨#[]⟩) : Ty)).1, .string (((3, ⟨#[]⟩) : Ty)).2]) (by simp [*, results, Try.results24, go_sem]) rfl ⟨by rw [HF.out], ?_⟩
    repeat (first | exact Below.refl _ _ | assumption | refine Below.setCell (p := ⟨_, _, _⟩) ?_ (by first | (simp; done) | (simp; omega) | omega) _ | refine below_drewN ?_ _ | refine Below.drew ?_ | refine Below.alloc ?_ (by first | (simp; done) | (simp; omega) | omega) _)

end Go.Proofs.Ytijbgbggmakfoaa
