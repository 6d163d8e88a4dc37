/- What the readers of one type answer. -/
import Derived.Test.YtibciicpgjgjbaaDoorDPlain
import Derived.Test.YtibciicpgjgjbaaDoorShelf
import Derived.RegionTactic
import Derived.ChangeAlike
namespace Go.Proofs.YtibciicpgjgjbaaDoor
open Go.RowKit

/-- the library's variable MaxLen is there -/
def Glob (w : World) : Prop := ∃ m : Int, w.cell? ⟨1, 0, none⟩ = some (.int .i64 m)

theorem Glob.below {w w' : World} {B : Nat} (h : Glob w) (hb : Below B w w') (hB : w.heap.size ≤ B) : Glob w' := by
  obtain ⟨m, hm⟩ := h
  have := World.block_lt_of_cell? _ _ hm
  exact ⟨m, by rw [hb.cell (p := ⟨1, 0, none⟩) (by simp only at this ⊢; omega)]; exact hm⟩
theorem Glob.alloc {w : World} (h : Glob w) (o : Obj) : Glob (w.alloc o) := h.below ((Below.refl w.heap.size w).alloc (Nat.le_refl _) o) (Nat.le_refl _)
theorem Glob.drewN {w : World} (h : Glob w) (n : Nat) : Glob (w.drewN n) := h

theorem below_drewN {B : Nat} {a w : World} (h : Below B a w) (n : Nat) : Below B a (w.drewN n) := ⟨h.os, h.tape, h.output, h.size, h.block⟩

theorem cut_some {s : ByteArray} {a b : List UInt8} (h : cutAt s.data.toList = some (a, b)) (w : World) (hg : Glob w) (hs : s.size ≤ 4294967280) :
    Calls Tryd.prog 42 #[.string s, .string ⟨#[59]⟩] w fun e w' => e = .returned (.tuple #[.string (bx a), .string (bx b), .bool true]) ∧ ∃ n, w' = w.drewN n := by
  obtain ⟨m, hm⟩ := hg
  refine (Tryd.strings_Cut s ⟨#[59]⟩ m w (by omega) hm).mono fun e w' ⟨h1, h2⟩ => ⟨?_, h2⟩
  rw [h1]
  have : Lib.cut s.data.toList ([59] : List UInt8) = (a, b, true) := by rw [cut_eq, h]
  show Ending.returned (.tuple #[.string ⟨(Lib.cut s.data.toList [59]).1.toArray⟩, .string ⟨(Lib.cut s.data.toList [59]).2.1.toArray⟩, .bool (Lib.cut s.data.toList [59]).2.2]) = _
  rw [this]; rfl

theorem cut_none {s : ByteArray} (h : cutAt s.data.toList = none) (w : World) (hg : Glob w) (hs : s.size ≤ 4294967280) :
    Calls Tryd.prog 42 #[.string s, .string ⟨#[59]⟩] w fun e w' => e = .returned (.tuple #[.string s, .string (bx []), .bool false]) ∧ ∃ n, w' = w.drewN n := by
  obtain ⟨m, hm⟩ := hg
  refine (Tryd.strings_Cut s ⟨#[59]⟩ m w (by omega) hm).mono fun e w' ⟨h1, h2⟩ => ⟨?_, h2⟩
  rw [h1]
  have : Lib.cut s.data.toList ([59] : List UInt8) = (s.data.toList, [], false) := by rw [cut_eq, h]
  show Ending.returned (.tuple #[.string ⟨(Lib.cut s.data.toList [59]).1.toArray⟩, .string ⟨(Lib.cut s.data.toList [59]).2.1.toArray⟩, .bool (Lib.cut s.data.toList [59]).2.2]) = _
  rw [this]; rfl

def ret3 (x : Ty × List UInt8 × Bool) : Value := .tuple #[tyv x.1, .string (bx x.2.1), .bool x.2.2]

theorem ret_of {a b : Value} (h : a = b) : Ending.returned a = .returned b := by rw [h]

set_option maxHeartbeats 400000 in
theorem ref_any (s : ByteArray) (w : World) (hg : Glob w) (hs : s.size ≤ 4294967280) :
    Calls Tryd.prog 41 #[.string s] w fun e w' => e = .returned (ret3 (refR s.data.toList)) ∧ Below w.heap.size w w' := by
  cases hc : cutAt s.data.toList with
  | none =>
    have HF : Hid (refR s.data.toList = (t0, [], false)) := Lib.hid (by unfold refR; rw [hc])
    have HC := Lib.hid hc
    clear hc
    go_enter Tryd.func41, Tryd.ntmps41
    go_wp2_with fail
    refine (cut_none HC.out _ (hg.alloc _) hs).mono ?_
    rintro e w' ⟨rfl, n, rfl⟩
    go_wp2_with fail
    refine bodyPost_ret (v := .tuple #[.agg #[.int .i64 0, .string (bx [])], .string (bx []), .bool false]) (by simp [results, Tryd.results41, go_sem, bx]) rfl ⟨by rw [HF.out]; rfl, ?_⟩
    repeat (first | exact Below.refl _ _ | refine Below.setCell (p := ⟨_, _, _⟩) ?_ (by simp) _ | refine below_drewN ?_ _ | refine Below.drew ?_ | refine Below.alloc ?_ (by simp) _)
  | some p =>
    obtain ⟨a, b⟩ := p
    have hl : (bx a).size ≤ maxLen := by
      have := Lib.size_eq s
      rw [(cutAt_some hc).1] at this
      simp at this
      rw [bx_size]; unfold maxLen; omega
    have HC := Lib.hid hc
    cases hn : nameL a with
    | false =>
      have HF : Hid (refR s.data.toList = (t0, [], false)) := Lib.hid (by unfold refR; rw [hc]; simp [hn])
      have hn' : nameB (bx a) = false := hn
      clear hn hc
      go_enter Tryd.func41, Tryd.ntmps41
      go_wp2_with fail
      refine (cut_some HC.out _ (hg.alloc _) hs).mono ?_
      rintro e w' ⟨rfl, n, rfl⟩
      go_wp2_with fail
      refine (name_any _ _ hl).mono ?_
      rintro e w' ⟨rfl, rfl⟩
      go_wp2_with fail
      refine bodyPost_ret (v := .tuple #[.agg #[.int .i64 0, .string (bx [])], .string (bx []), .bool false]) (by simp [results, Tryd.results41, go_sem, bx]) rfl ⟨by rw [HF.out]; rfl, ?_⟩
      repeat (first | exact Below.refl _ _ | refine Below.setCell (p := ⟨_, _, _⟩) ?_ (by simp) _ | refine below_drewN ?_ _ | refine Below.drew ?_ | refine Below.alloc ?_ (by simp) _)
    | true =>
      have HF : Hid (refR s.data.toList = ((4, bx a), b, true)) := Lib.hid (by unfold refR; rw [hc]; simp [hn])
      have hn' : nameB (bx a) = true := hn
      clear hn hc
      go_enter Tryd.func41, Tryd.ntmps41
      go_wp2_with fail
      refine (cut_some HC.out _ (hg.alloc _) hs).mono ?_
      rintro e w' ⟨rfl, n, rfl⟩
      go_wp2_with fail
      refine (name_any _ _ hl).mono ?_
      rintro e w' ⟨rfl, rfl⟩
      go_wp2_with fail
      refine bodyPost_ret (v := .tuple #[.agg #[.int .i64 4, .string (bx a)], .string (bx b), .bool true]) (by simp [results, Tryd.results41, go_sem]) rfl ⟨by rw [HF.out]; rfl, ?_⟩
      repeat (first | exact Below.refl _ _ | refine Below.setCell (p := ⟨_, _, _⟩) ?_ (by simp) _ | refine below_drewN ?_ _ | refine Below.drew ?_ | refine Below.alloc ?_ (by simp) _)

theorem drop1 (s : ByteArray) : s.extract 1 s.size = bx (s.data.toList.drop 1) := by
  rw [Lib.extract_eq, bx]
  rw [List.take_of_length_le (by rw [List.length_drop, ← Lib.size_eq]; omega)]

set_option maxHeartbeats 1000000 in
theorem first_any (s : ByteArray) (w : World) (hg : Glob w) (hs : s.size ≤ 4294967280) :
    Calls Tryd.prog 39 #[.string s] w fun e w' => e = .returned (ret3 (firstR s.data.toList)) ∧ Below w.heap.size w w' := by
  cases hs1 : s.data.toList with
  | nil =>
    have h0 : s.size = 0 := by rw [Lib.size_eq, hs1]; rfl
    have HF : Hid (firstR [] = (t0, [], false)) := Lib.hid rfl
    obtain rfl : s = ByteArray.empty := by
      obtain ⟨⟨l⟩⟩ := s
      rw [show l = [] from hs1]; rfl
    clear h0 hs1
    go_enter Tryd.func39, Tryd.ntmps39
    go_wp2_with fail
    refine bodyPost_ret (v := .tuple #[.agg #[.int .i64 0, .string (bx [])], .string (bx []), .bool false]) (by simp [results, Tryd.results39, go_sem, bx]) rfl ⟨by rw [HF.out]; rfl, ?_⟩
    repeat (first | exact Below.refl _ _ | refine Below.setCell (p := ⟨_, _, _⟩) ?_ (by simp) _ | refine below_drewN ?_ _ | refine Below.drew ?_ | refine Below.alloc ?_ (by simp) _)
  | cons c r =>
    rw [← hs1]
    have h0' : 0 < s.size := by rw [Lib.size_eq, hs1]; simp
    have hE := isEmpty_ne h0'
    have hN := toList_ne h0'
    have h0c : s[0] = c := by
      have := getD0 h0'
      rw [hs1] at this
      exact this.symm
    have hr : s.extract 1 s.size = bx r := by rw [drop1, hs1]; rfl
    have HT : Hid (s.extract 1 s.size = bx r) := Lib.hid hr
    have hrl : r.length ≤ 4294967280 := by
      have := Lib.size_eq s
      rw [hs1] at this
      simp at this
      omega
    clear hr
    by_cases h1 : c = 73
    · subst h1
      have HF : Hid (firstR s.data.toList = ((1, bx []), r, true)) := Lib.hid (by rw [hs1, firstR_cons]; rfl)
      have hx : (s[0].toNat : Int) = 73 := by rw [h0c]; rfl
      clear h0c hs1
      go_enter Tryd.func39, Tryd.ntmps39
      go_wp2_with fail
      go_region
      all_goals go_wp2_with fail
      all_goals refine bodyPost_ret (v := .tuple #[.agg #[.int .i64 1, .string (bx [])], .string (bx r), .bool true]) ?_ rfl ⟨by rw [HF.out]; rfl, ?_⟩
      all_goals first | (simp [results, Tryd.results39, go_sem, bx, HT.out]; done) | (repeat (first | exact Below.refl _ _ | refine Below.setCell (p := ⟨_, _, _⟩) ?_ (by simp) _ | refine below_drewN ?_ _ | refine Below.drew ?_ | refine Below.alloc ?_ (by simp) _))
    have n1 : ((s[0].toNat : Int) == 73) = false := by
      rw [beq_eq_false_iff_ne, h0c]
      intro e
      exact h1 (UInt8.toNat_inj.1 (by show c.toNat = 73; omega))
    by_cases h2 : c = 83
    · subst h2
      have HF : Hid (firstR s.data.toList = ((2, bx []), r, true)) := Lib.hid (by rw [hs1, firstR_cons]; rfl)
      have hx : (s[0].toNat : Int) = 83 := by rw [h0c]; rfl
      clear h0c hs1
      go_enter Tryd.func39, Tryd.ntmps39
      go_wp2_with fail
      go_region
      all_goals go_wp2_with fail
      all_goals refine bodyPost_ret (v := .tuple #[.agg #[.int .i64 2, .string (bx [])], .string (bx r), .bool true]) ?_ rfl ⟨by rw [HF.out]; rfl, ?_⟩
      all_goals first | (simp [results, Tryd.results39, go_sem, bx, HT.out]; done) | (repeat (first | exact Below.refl _ _ | refine Below.setCell (p := ⟨_, _, _⟩) ?_ (by simp) _ | refine below_drewN ?_ _ | refine Below.drew ?_ | refine Below.alloc ?_ (by simp) _))
    have n2 : ((s[0].toNat : Int) == 83) = false := by
      rw [beq_eq_false_iff_ne, h0c]
      intro e
      exact h2 (UInt8.toNat_inj.1 (by show c.toNat = 83; omega))
    by_cases h3 : c = 65
    · subst h3
      have HF : Hid (firstR s.data.toList = ((3, bx []), r, true)) := Lib.hid (by rw [hs1, firstR_cons]; rfl)
      have hx : (s[0].toNat : Int) = 65 := by rw [h0c]; rfl
      clear h0c hs1
      go_enter Tryd.func39, Tryd.ntmps39
      go_wp2_with fail
      go_region
      all_goals go_wp2_with fail
      all_goals refine bodyPost_ret (v := .tuple #[.agg #[.int .i64 3, .string (bx [])], .string (bx r), .bool true]) ?_ rfl ⟨by rw [HF.out]; rfl, ?_⟩
      all_goals first | (simp [results, Tryd.results39, go_sem, bx, HT.out]; done) | (repeat (first | exact Below.refl _ _ | refine Below.setCell (p := ⟨_, _, _⟩) ?_ (by simp) _ | refine below_drewN ?_ _ | refine Below.drew ?_ | refine Below.alloc ?_ (by simp) _))
    have n3 : ((s[0].toNat : Int) == 65) = false := by
      rw [beq_eq_false_iff_ne, h0c]
      intro e
      exact h3 (UInt8.toNat_inj.1 (by show c.toNat = 65; omega))
    by_cases h4 : c = 86
    · subst h4
      have HF : Hid (firstR s.data.toList = ((5, bx []), r, true)) := Lib.hid (by rw [hs1, firstR_cons]; rfl)
      have hx : (s[0].toNat : Int) = 86 := by rw [h0c]; rfl
      clear h0c hs1
      go_enter Tryd.func39, Tryd.ntmps39
      go_wp2_with fail
      go_region
      all_goals go_wp2_with fail
      all_goals refine bodyPost_ret (v := .tuple #[.agg #[.int .i64 5, .string (bx [])], .string (bx r), .bool true]) ?_ rfl ⟨by rw [HF.out]; rfl, ?_⟩
      all_goals first | (simp [results, Tryd.results39, go_sem, bx, HT.out]; done) | (repeat (first | exact Below.refl _ _ | refine Below.setCell (p := ⟨_, _, _⟩) ?_ (by simp) _ | refine below_drewN ?_ _ | refine Below.drew ?_ | refine Below.alloc ?_ (by simp) _))
    have n4 : ((s[0].toNat : Int) == 86) = false := by
      rw [beq_eq_false_iff_ne, h0c]
      intro e
      exact h4 (UInt8.toNat_inj.1 (by show c.toNat = 86; omega))
    by_cases h5 : c = 76
    · subst h5
      have HF : Hid (firstR s.data.toList = refR r) := Lib.hid (by rw [hs1, firstR_cons]; rfl)
      have hx : (s[0].toNat : Int) = 76 := by rw [h0c]; rfl
      clear h0c hs1 n1 n2 n3 n4
      go_enter Tryd.func39, Tryd.ntmps39
      go_wp2_with fail
      rw [HT.out]
      refine (ref_any (bx r) _ (hg.alloc _) (by rw [bx_size]; omega)).mono ?_
      rintro e w1 ⟨rfl, hb1⟩
      rw [bx_data]
      obtain ⟨⟨k, c⟩, rest, ok, hR⟩ : ∃ t rest ok, refR r = (t, rest, ok) := ⟨_, _, _, rfl⟩
      rw [hR, show ret3 ((k, c), rest, ok) = Value.tuple #[.agg #[.int .i64 k, .string c], .string (bx rest), .bool ok] from rfl]
      have HR := Lib.hid hR
      clear hR
      have hs1 := hb1.size
      simp at hs1
      have hc0 : w1.cell? ⟨w.heap.size, 0, none⟩ = some (.int .i64 0) := (hb1.cell (p := ⟨w.heap.size, 0, none⟩) (by simp)).trans (by simp)
      have hc1 : w1.cell? ⟨w.heap.size, 1, none⟩ = some (.string ⟨#[]⟩) := (hb1.cell (p := ⟨w.heap.size, 1, none⟩) (by simp)).trans (by simp)
      have hf0 : w1.frozen? ⟨w.heap.size, 0, none⟩ = false := (hb1.frozen (p := ⟨w.heap.size, 0, none⟩) (by simp)).trans (by simp)
      have hf1 : w1.frozen? ⟨w.heap.size, 1, none⟩ = false := (hb1.frozen (p := ⟨w.heap.size, 1, none⟩) (by simp)).trans (by simp)
      go_wp2_with fail
      have hb2 : Below w.heap.size w w1 := ((Below.refl _ w).alloc (Nat.le_refl _) _).trans (hb1.mono (by simp))
      refine bodyPost_ret (v := .tuple #[.agg #[.int .i64 k, .string c], .string (bx rest), .bool ok]) (by simp [results, Tryd.results39, go_sem, hc0, hc1]) rfl ⟨by rw [HF.out, HR.out]; rfl, ?_⟩
      repeat (first | exact Below.refl _ _ | assumption | refine Below.setCell (p := ⟨_, _, _⟩) ?_ (by simp) _ | refine below_drewN ?_ _ | refine Below.drew ?_ | refine Below.alloc ?_ (by simp) _)
    · have n5 : ((s[0].toNat : Int) == 76) = false := by
        rw [beq_eq_false_iff_ne, h0c]
        intro e
        exact h5 (UInt8.toNat_inj.1 (by show c.toNat = 76; omega))
      have HF : Hid (firstR s.data.toList = (t0, [], false)) := Lib.hid (by rw [hs1, firstR_cons, if_neg h1, if_neg h2, if_neg h3, if_neg h4, if_neg h5])
      clear h0c hs1
      go_enter Tryd.func39, Tryd.ntmps39
      go_wp2_with fail
      refine bodyPost_ret (v := .tuple #[.agg #[.int .i64 0, .string (bx [])], .string (bx []), .bool false]) (by simp [results, Tryd.results39, go_sem, bx]) rfl ⟨by rw [HF.out]; rfl, ?_⟩
      repeat (first | exact Below.refl _ _ | assumption | refine Below.setCell (p := ⟨_, _, _⟩) ?_ (by simp) _ | refine below_drewN ?_ _ | refine Below.drew ?_ | refine Below.alloc ?_ (by simp) _)

end Go.Proofs.YtibciicpgjgjbaaDoor
