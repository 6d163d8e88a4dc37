/- What the reference calls each op. -/
import Derived.Test.YtibciicpgjgjbaaDoorOPlain
namespace Go.Proofs.YtibciicpgjgjbaaDoor
open Go.RowKit

theorem tab_get (l : List ByteArray) (k : Nat) (h : k + 1 < l.length) (h' : k < (l.tail.map Value.string).length) : (l.tail.map Value.string)[k]'h' = .string (l.getD (k + 1) ⟨#[]⟩) := by
  cases l with
  | nil => simp at h
  | cons a r =>
    simp only [List.tail_cons, List.getElem_map, List.getD_cons_succ]
    simp only [List.length_cons] at h
    rw [List.getD_eq_getElem?_getD, List.getElem?_eq_getElem (by omega)]; rfl

set_option maxHeartbeats 2000000 in
theorem ropname_any (o : Int) (w : World) :
    Calls Tryd.prog 9 #[.int .i64 o] w fun e w' => e = .returned (.string (opName o)) ∧ Below w.heap.size w w' := by
  cases hk : knownB o with
  | false =>
    have HF := Lib.hid (opName_out hk)
    unfold knownB at hk
    simp only [decide_eq_false_iff_not] at hk
    by_cases h1 : o < 1
    · clear hk
      go_enter Tryd.func9, Tryd.ntmps9
      go_wp2
      go_ret
      exact ⟨ret_str HF.out.symm, (Below.refl _ _).alloc (Nat.le_refl _) _⟩
    · have h2 : 43 < o := by omega
      have h3 : 1 ≤ o := by omega
      clear hk h1
      go_enter Tryd.func9, Tryd.ntmps9
      go_wp2
      go_ret
      exact ⟨ret_str HF.out.symm, (Below.refl _ _).alloc (Nat.le_refl _) _⟩
  | true =>
    unfold knownB at hk
    simp only [decide_eq_true_eq] at hk
    obtain ⟨n, rfl⟩ : ∃ n : Nat, o = (n : Int) + 1 := ⟨o.toNat - 1, by omega⟩
    have h1 : n < 43 := by omega
    have HF := Lib.hid (opName_in (n := n + 1) (by omega) (by omega))
    clear hk
    go_enter Tryd.func9, Tryd.ntmps9
    go_wp2
    go_ret
    exact ⟨congrArg Ending.returned ((tab_get tabL n (by show n + 1 < 44; omega) (by show n < 43; omega)).trans (congrArg Value.string HF.out.symm)), (Below.refl _ _).alloc (Nat.le_refl _) _⟩

end Go.Proofs.YtibciicpgjgjbaaDoor
