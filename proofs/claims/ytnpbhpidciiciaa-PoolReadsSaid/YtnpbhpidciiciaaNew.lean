/- What Clone and New answer; how a Reader lies in memory. -/
import Derived.Test.YtnpbhpidciiciaaTwo
namespace Go.Proofs.Ytnpbhpidciiciaa
open Go.RowKit

/-- the Reader in block rb holds the bytes bs (its own, from B on), has taken k of them, its error is e -/
def Rdr (w : World) (B rb : Nat) (bs : List UInt8) (k e : Nat) : Prop :=
  B ≤ rb ∧ k ≤ bs.length ∧ ∃ sl, w.heap[rb]? = some (.cells #[sl, .int .i64 k, .int .i64 e] 64 (0, 0)) ∧ Own w B sl bs ∧ ∀ g, sl.ownBlock = some g → g < rb

theorem Own.made (w : World) (B : Nat) (hB : B ≤ w.heap.size) : Own (w.alloc (.cells #[] 5)) B (.slice (some ⟨w.heap.size, 0, none⟩) 0 0) [] :=
  World.ownsRow_made w #[] 0 hB (Nat.zero_le _) rfl

set_option maxHeartbeats 400000 in
set_option maxRecDepth 100000 in
theorem clone_any (v0 : Value) (l : List UInt8) (w : World) (hr : Rd w v0 l) (hv : l = [] ∨ ∀ g, v0.ownBlock = some g → g < w.heap.size) (hl : l.length ≤ 400000) :
    Calls Try.prog 28 #[v0] w fun e w' => ∃ v, e = .returned v ∧ Own w' w.heap.size v l ∧ Below w.heap.size w w' := by
  have q22 : ∀ (w : World) (a : Option Addr) (n c n' c' : Nat), (binOp .eql 23 (.slice a n c) (.slice none n' c')).run Try.prog w = .ok (.bool a.isNone) w := fun w a n c n' c' => Lib.run_eql_slice_nil w _ _ a n c n' c' Try.underlying23
  have hr1 := hr.alloc (.cells #[] 5) hv
  obtain ⟨p, cap, rfl, hx, hn, _⟩ := id hr
  cases p with
  | none =>
    have hc0 := hn rfl
    have hl0 : l = [] := List.eq_nil_of_length_eq_zero (by omega)
    subst hl0
    subst hc0
    go_enter Try.func28, Try.ntmps28
    go_wp2
    go_ret
    exact ⟨_, rfl, World.ownsRow_nil _ _ _ _, Below.refl _ _⟩
  | some ad =>
    clear hn
    go_enter Try.func28, Try.ntmps28
    go_wp2_with (at_builtin; refine wp_app rfl _ _ rfl w.heap.size _ [] rfl (Own.made w _ (Nat.le_refl _)) _ l rfl hr1 ?d1 ?d2 ?_)
    case d1 => simp; omega
    case d2 => simp
    intro v2 w2 ho2 hg2 _
    have hb2 : Below w.heap.size w w2 := ((Below.refl _ w).alloc (Nat.le_refl _) _).grown hg2 (by simp) (by intro k hk; simp [Value.ownBlock] at hk; omega)
    have HO := Lib.hid ho2
    clear ho2
    go_wp2
    go_ret
    exact ⟨_, rfl, by have := HO.out; simpa using this, hb2⟩

set_option maxHeartbeats 400000 in
set_option maxRecDepth 100000 in
theorem new_any (v0 : Value) (l : List UInt8) (w : World) (hr : Rd w v0 l) (hv : l = [] ∨ ∀ g, v0.ownBlock = some g → g < w.heap.size) (hl : l.length ≤ 400000) :
    Calls Try.prog 18 #[v0] w fun e w' => ∃ rb, e = .returned (.pointer (some ⟨rb, 0, none⟩)) ∧ Rdr w' w.heap.size rb l 0 0 ∧ Below w.heap.size w w' := by
  go_enter Try.func18, Try.ntmps18
  go_wp2_with fail
  refine (clone_any v0 l _ hr hv hl).mono ?_
  rintro e w1 ⟨v1, rfl, ho1, hb1⟩
  obtain ⟨a1, c1, rfl, _, _⟩ := ho1.len
  go_wp2
  go_ret
  refine ⟨_, rfl, ⟨hb1.size, Nat.zero_le _, _, heap_alloc_new w1 _, ho1.alloc _, ?_⟩, hb1.alloc hb1.size _⟩
  intro g h
  exact (ho1.lt g h).2

end Go.Proofs.Ytnpbhpidciiciaa
