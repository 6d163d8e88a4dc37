/- Texts that the proof is made of, joined. No condition. -/
import Derived.Test.YtjegocecgncpkaaC92
import Derived.Test.YtjegocecgncpkaaC9H
set_option linter.unusedVariables false
set_option linter.unusedSimpArgs false
set_option maxRecDepth 100000
set_option maxHeartbeats 16000000
namespace Go.Proofs.Ytjegocecgncpkaa.S
open Go.RowKit Go.Maps
def eqB {α : Type} [DecidableEq α] (a b : List α) : Bool := decide (a = b)
theorem eqB_iff {α : Type} [DecidableEq α] {a b : List α} : eqB a b = true ↔ a = b := decide_eq_true_iff
theorem eqB_len {α : Type} [DecidableEq α] {a b : List α} (h : a.length ≠ b.length) : eqB a b = false := decide_eq_false (fun e => h (by rw [e]))
theorem eqB_at {α : Type} [DecidableEq α] {a b : List α} {i : Nat} {x y : α} (hx : a[i]? = some x) (hy : b[i]? = some y) (h : x ≠ y) : eqB a b = false := decide_eq_false (fun e => by
  rw [e, hy] at hx
  cases hx
  exact h rfl)
theorem eqB_all {α : Type} [DecidableEq α] {a b : List α} (hl : a.length = b.length) (h : ∀ i, i < a.length → a[i]? = b[i]?) : eqB a b = true := decide_eq_true (by
  apply List.ext_getElem?
  intro i
  by_cases hi : i < a.length
  · exact h i hi
  · rw [List.getElem?_eq_none (by omega), List.getElem?_eq_none (by omega)])
set_option maxHeartbeats 400000 in
set_option maxRecDepth 100000 in
theorem same_S (v1 v2 : Value) (xs ys : List ByteArray) (ok1 ok2 : Nat → Prop) (w : World) (hr1 : RdC cS ok1 w v1 xs) (hr2 : RdC cS ok2 w v2 ys) (hl : xs.length ≤ 100000) (hl2 : ys.length ≤ 100000) :
    Calls Try.prog 44 #[v1, v2] w fun e w' => e = .returned (.bool (eqB xs ys)) ∧ ∃ n, w' = w.drewN n := by
  obtain ⟨p, cap, rfl, h1, h2⟩ := hr1.form
  obtain ⟨p2, cap2, rfl, h3, h4⟩ := hr2.form
  have HR1 := Lib.hid hr1
  have HR2 := Lib.hid hr2
  clear hr1 hr2
  by_cases hle : xs.length = ys.length
  · have hb : ((xs.length : Int) == (ys.length : Int)) = true := beq_iff_eq.2 (by omega)
    go_enter Try.func44, Try.ntmps44
    go_wp2_with fail
    have HLE := Lib.hid hle
    clear hle hb
    go_loopw [5] (fun v wr => ∃ i n : Nat, v = .int .i64 (i : Int) ∧ i ≤ xs.length ∧ Hid (∀ k, k < i → xs[k]? = ys[k]?) ∧ wr = w.drewN n) (fun v _ => xs.length - (intOf v).toNat)
    case atStart => exact ⟨0, 0, rfl, by omega, Lib.hid (fun k hk => absurd hk (by omega)), rfl⟩
    case round =>
      obtain ⟨i, n, rfl, hi, HA, rfl⟩ := hrel
      by_cases hlt : i < xs.length
      · have hlt' : (i : Int) < (xs.length : Int) := by omega
        have hlt2 : i < ys.length := by have := HLE.out; omega
        have hlt2' : (i : Int) < (ys.length : Int) := by omega
        have hne : xs ≠ [] := by rintro rfl; simp at hlt
        have hne2 : ys ≠ [] := by rintro rfl; simp at hlt2
        obtain ⟨b, off, rfl, hb, hbl, hc⟩ := HR1.out.at hne
        obtain ⟨b2, off2, rfl, hb2, hbl2, hc2⟩ := HR2.out.at hne2
        have hg := List.getElem?_eq_getElem hlt
        have hg2 := List.getElem?_eq_getElem hlt2
        have ci : w.cell? ⟨b, off + i, none⟩ = some (.string xs[i]) := hc i _ hg
        have ci2 : w.cell? ⟨b2, off2 + i, none⟩ = some (.string ys[i]) := hc2 i _ hg2
        obtain ⟨y, hy⟩ : ∃ y, xs[i] = y := ⟨_, rfl⟩
        obtain ⟨z, hz⟩ : ∃ z, ys[i] = z := ⟨_, rfl⟩
        rw [hy] at ci hg
        rw [hz] at ci2 hg2
        have HG := Lib.hid hg
        have HG2 := Lib.hid hg2
        clear hc hy hg hc2 hz hg2
        by_cases e : y = z
        · subst e
          go_wp2_with fail
          go_quiet (fail)
          go_wp2_with fail
          go_roundw
          case rel => exact ⟨i + 1, _, by go_num, by omega, Lib.hid (fun k hk => by
            by_cases e2 : k = i
            · subst e2
              rw [HG.out, HG2.out]
            · exact HA.out k (by omega)), rfl⟩
          case measure => simp [intOf]; omega
        · have hne2 : (y.toList == z.toList) = false := txt_ne e
          go_wp2_with fail
          go_quiet (fail)
          go_wp2
          go_ret
          exact ⟨ret_bool (eqB_at HG.out HG2.out e).symm, _, World.drewN_drewN _ _ _⟩
      · obtain rfl : i = xs.length := by omega
        clear hlt hi
        go_wp2
        go_ret
        exact ⟨ret_bool (eqB_all HLE.out HA.out).symm, _, rfl⟩
  · have hb : ((xs.length : Int) == (ys.length : Int)) = false := beq_eq_false_iff_ne.2 (by omega)
    have hE := Lib.hid (eqB_len hle)
    clear hle
    go_enter Try.func44, Try.ntmps44
    go_wp2
    go_ret
    exact ⟨ret_bool hE.out.symm, 0, rfl⟩
theorem strs_S (v1 v2 : Value) (xs ys : List ByteArray) (ok1 ok2 : Nat → Prop) (w : World) (hr1 : RdC cS ok1 w v1 xs) (hr2 : RdC cS ok2 w v2 ys) (hl : xs.length ≤ 100000) (hl2 : ys.length ≤ 100000) :
    Calls Try.prog 16 #[v1, v2] w fun e w' => e = .returned (.bool (eqB xs ys)) ∧ ∃ n, w' = w.drewN n := by
  go_enter Try.func16, Try.ntmps16
  go_wp2_with fail
  refine (same_S v1 v2 xs ys ok1 ok2 w hr1 hr2 hl hl2).mono ?_
  rintro e w1 ⟨rfl, n, rfl⟩
  go_wp2
  go_ret
  exact ⟨rfl, n, rfl⟩
end Go.Proofs.Ytjegocecgncpkaa.S
