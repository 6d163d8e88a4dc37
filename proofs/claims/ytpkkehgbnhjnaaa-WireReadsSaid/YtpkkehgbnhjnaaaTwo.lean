/- What Two answers, and New and Clone. -/
import Derived.Test.YtpkkehgbnhjnaaaNum
namespace Go.Proofs.Ytpkkehgbnhjnaaa
open Go.RowKit

/-- n in two bytes -/
def twoN (n : Int) : Nat := min (cnt n) 65535
def two (n : Int) : List UInt8 := [UInt8.ofNat (twoN n % 256), UInt8.ofNat (twoN n / 256)]

theorem int_eq {k : IntKind} {a b : Int} (h : a = b) : Value.int k a = Value.int k b := by rw [h]

theorem rd_new2 (w : World) (v1 v2 : Value) (t : TypeId) (x y : UInt8) (h1 : v1 = u8 x) (h2 : v2 = u8 y) : Rd (w.alloc (.cells #[v1, v2] t)) (.slice (some ⟨w.heap.size, 0, none⟩) 2 2) [x, y] := by
  subst h1
  subst h2
  refine ⟨_, 2, rfl, by simp, (fun h => by cases h), fun a ha => ?_⟩
  cases ha
  intro i z hz
  match i, hz with
  | 0, hz => simp at hz; subst hz; simp [Addr.add]
  | 1, hz => simp at hz; subst hz; simp [Addr.add]

theorem Rd.alloc {w : World} {v : Value} {l : List UInt8} (h : Rd w v l) (o : Obj) (hv : l = [] ∨ ∀ g, v.ownBlock = some g → g < w.heap.size) : Rd (w.alloc o) v l :=
  h.below ((Below.refl _ _).alloc (Nat.le_refl _) o) hv

set_option maxHeartbeats 400000 in
set_option maxRecDepth 100000 in
theorem two_any (v0 : Value) (l : List UInt8) (n : Int) (w : World) (hr : Rd w v0 l) (hv : l = [] ∨ ∀ g, v0.ownBlock = some g → g < w.heap.size) (hl : l.length ≤ 400000) (h1 : -9223372036854775808 ≤ n) (h2 : n ≤ 9223372036854775807) :
    Calls Try.prog 16 #[v0, .int .i64 n] w fun e w' => ∃ v, e = .returned v ∧ Own w' w.heap.size v (l ++ two n) ∧ Below w.heap.size w w' := by
  have e1 : twoN n = min (cnt n) 65535 := rfl
  have hm : twoN n ≤ 65535 := by unfold twoN; omega
  have HM := Lib.hid e1
  clear e1
  by_cases hc : cnt n ≤ 65535
  all_goals
    go_enter Try.func16, Try.ntmps16
    go_wp2_with fail
    refine (count_any n _ h1 h2).mono ?_
    rintro e w' ⟨rfl, rfl⟩
    go_wp2_with fail
    refine (room_any v0 l _ _ hr hv (by omega) (by omega) (by omega)).mono ?_
    rintro e w1 ⟨v1, rfl, ho1, hb1⟩
    have hs1 := hb1.size
    go_wp2_with (at_builtin; refine wp_app rfl _ _ rfl w.heap.size _ l rfl (ho1.alloc _) _ (two n) rfl (rd_new2 _ _ _ _ _ _ ?c1 ?c2) ?d1 ?d2 ?_)
    case c1 => rw [u8_ofNat (by omega)]; exact int_eq (by have := HM.out; omega)
    case c2 => rw [u8_ofNat (by omega)]; exact int_eq (by have := HM.out; omega)
    case d1 => simp [two]; omega
    case d2 => simp; omega
    intro v2 w2 ho2 hg2 _
    have hb2 : Below w.heap.size w w2 := (hb1.alloc hs1 _).grown hg2 (by simp; omega) (fun k hk => (ho1.lt k hk).1)
    have HO := Lib.hid ho2
    clear ho2
    go_wp2
    go_ret
    exact ⟨_, rfl, HO.out, hb2⟩

end Go.Proofs.Ytpkkehgbnhjnaaa
