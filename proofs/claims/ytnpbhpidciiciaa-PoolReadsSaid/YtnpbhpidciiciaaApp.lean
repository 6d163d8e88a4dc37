/- Appending to a slice of the call's own, whatever readable slice or text comes behind it. -/
import Derived.Test.YtnpbhpidciiciaaBase
import Derived.Lib.AppendStr
import Derived.Laws.AppendOwnNone
namespace Go.Proofs.Ytnpbhpidciiciaa
open Go.RowKit

theorem wp_app {w : World} {ops : Array Oper} {rest : List Oper} {o : Oper} {a : Act} {Q : Exit → Act → World → Prop} (hgd : o.guard = none) (s x : Operand)
    (ho : o.op = .call { callee := .builtin .append, args := #[s, x], argTypes := #[23, 23] })
    (B : Nat) (v : Value) (l : List UInt8) (hs : a.eval s = v) (hown : Own w B v l) (vx : Value) (m : List UInt8) (hx : a.eval x = vx) (hrd : Rd w vx m)
    (hb : l.length + m.length ≤ 140737488355328) (hbase : B ≤ w.heap.size)
    (h : ∀ v' w', Own w' B v' (l ++ m) → w.grownBy w' v.ownBlock → (v' = .slice none 0 0 ↔ v = .slice none 0 0 ∧ m = []) → wpList Try.prog ops Q rest (a.put o.dst v') w') :
    wpList Try.prog ops Q (o :: rest) a w := by
  obtain ⟨i0, hi, hz0, hz1, hz2⟩ := info_parts Try.infoB
  obtain ⟨p, cap, rfl, hle, hn, hc⟩ := hrd
  cases p with
  | none =>
    have hc0 := hn rfl
    have hl0 : m.length = 0 := by omega
    have hm : m = [] := List.eq_nil_of_length_eq_zero hl0
    subst hm
    subst hc0
    refine wpList_append_own_none hgd s x 23 ho B 5 i0 1 Try.underlying23 hi v l.length (l.map u8) hs hown hx ?_
    refine h v w (by rw [List.append_nil]; exact hown) ⟨rfl, rfl, rfl, Nat.le_refl _, fun _ _ _ => rfl⟩ ?_
    exact ⟨fun h => ⟨h, rfl⟩, fun h => h.1⟩
  | some ad =>
    refine wpList_append_own w hgd s x 23 ho B 5 i0 (.int .u8 0) 1 1 Try.underlying23 hi hz0 hz1 hz2 rfl (by decide) v l.length (l.map u8) hs hown ad m.length cap (m.map u8) hx (by simp) ?_ (u8_one m)
      (by unfold maxLen; omega) (by omega) hbase ?_
    · intro j u hj
      rw [List.getElem?_map, Option.map_eq_some_iff] at hj
      obtain ⟨b, hb1, rfl⟩ := hj
      exact hc ad rfl j b hb1
    · intro v' w' h1 h2 h3
      refine h v' w' ?_ h2 ?_
      · unfold Own
        rw [List.length_append, List.map_append]
        exact h1
      · rw [h3]
        exact ⟨fun h => ⟨h.1, List.eq_nil_of_length_eq_zero h.2⟩, fun h => ⟨h.1, by rw [h.2]; rfl⟩⟩

/-- the bytes of a text -/
def sb (s : ByteArray) : List UInt8 := s.data.toList

theorem sb_len (s : ByteArray) : (sb s).length = s.size := by
  show s.data.toList.length = s.data.size
  simp

theorem wp_app_str {w : World} {ops : Array Oper} {rest : List Oper} {o : Oper} {a : Act} {Q : Exit → Act → World → Prop} (hgd : o.guard = none) (s x : Operand)
    (ho : o.op = .call { callee := .builtin .append, args := #[s, x], argTypes := #[23, 9] })
    (B : Nat) (v : Value) (l : List UInt8) (hs : a.eval s = v) (hown : Own w B v l) (t : ByteArray) (hx : a.eval x = .string t)
    (hb : l.length + t.size ≤ 140737488355328) (hbase : B ≤ w.heap.size)
    (h : ∀ v' w', Own w' B v' (l ++ sb t) → w.grownBy w' v.ownBlock → (v' = .slice none 0 0 ↔ v = .slice none 0 0 ∧ t.size = 0) → wpList Try.prog ops Q rest (a.put o.dst v') w') :
    wpList Try.prog ops Q (o :: rest) a w := by
  obtain ⟨i0, hi, hz0, hz1, hz2⟩ := info_parts Try.infoB
  refine Lib.wpList_append_own_string w hgd s x 23 9 ho B 5 i0 Try.underlying23 Try.underlying9 hi hz0 hz1 hz2 v l.length (l.map u8) hs hown t hx (by unfold maxLen; omega) (by omega) hbase ?_
  intro v' w' h1 h2 h3
  refine h v' w' ?_ h2 h3
  unfold Own
  rw [List.length_append, List.map_append, sb_len]
  have e : Lib.strCells t = (sb t).map u8 := rfl
  rw [← e]
  exact h1

end Go.Proofs.Ytnpbhpidciiciaa
