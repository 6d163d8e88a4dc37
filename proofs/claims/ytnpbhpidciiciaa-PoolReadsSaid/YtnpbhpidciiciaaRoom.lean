/- What withRoom, Int, Text, Two answer. -/
import Derived.Test.YtnpbhpidciiciaaPut
import Derived.Test.YtnpbhpidciiciaaNums
namespace Go.Proofs.Ytnpbhpidciiciaa
open Go.RowKit

theorem wp_mk {w : World} {ops : Array Oper} {rest : List Oper} {o : Oper} {a : Act} {Q : Exit → Act → World → Prop} (hgd : o.guard = none) (s x : Operand)
    (ho : o.op = Op.makeSlice 23 s x)
    (B : Nat) (C : Int) (n : Nat) (hs : a.eval s = .int .i64 0) (hx : a.eval x = .int .i64 C) (hC : C = (n : Int)) (hn : n ≤ 140737488355328) (hbase : B ≤ w.heap.size)
    (h : ∀ w', Own w' B (.slice (some ⟨w.heap.size, 0, none⟩) 0 n) [] → w.grownBy w' none → wpList Try.prog ops Q rest (a.put o.dst (.slice (some ⟨w.heap.size, 0, none⟩) 0 n)) w') :
    wpList Try.prog ops Q (o :: rest) a w := by
  obtain ⟨i0, hi, hz0, hz1, hz2⟩ := info_parts Try.infoB
  exact wpList_make_own w hgd s x 23 ho B 5 i0 (.int .u8 0) 1 Try.underlying23 hi hz0 hz1 .i64 .i64 C n hs hx hC (by rw [hz2]; omega) (by unfold maxLen; omega) hbase h

theorem below_grown_none {B : Nat} {w w' : World} (hg : w.grownBy w' none) (hB : B ≤ w.heap.size) : Below B w w' := (Below.refl _ _).grown hg hB (fun k hk => by cases hk)

set_option maxHeartbeats 400000 in
set_option maxRecDepth 100000 in
theorem room_any (v0 : Value) (l : List UInt8) (n : Int) (w : World) (hr : Rd w v0 l) (hv : l = [] ∨ ∀ g, v0.ownBlock = some g → g < w.heap.size) (hl : l.length ≤ 500000) (h0 : 0 ≤ n) (h1 : n ≤ 500000) :
    Calls Try.prog 35 #[v0, .int .i64 n] w fun e w' => ∃ v, e = .returned v ∧ Own w' w.heap.size v l ∧ Below w.heap.size w w' := by
  obtain ⟨p, cap, rfl, hx⟩ := id hr
  go_enter Try.func35, Try.ntmps35
  go_wp2_with (at_make; refine wp_mk rfl _ _ rfl w.heap.size _ (l.length + n.toNat) rfl rfl ?c1 ?c2 ?c3 ?_)
  case c1 => omega
  case c2 => omega
  case c3 => omega
  intro w1 ho1 hg1
  have hb1 : Below w.heap.size w w1 := below_grown_none hg1 (Nat.le_refl _)
  have hr1 := hr.below hb1 hv
  have hs1 := hb1.size
  go_wp2_with (at_builtin; refine wp_app rfl _ _ rfl w.heap.size _ [] rfl ho1 _ l rfl hr1 ?d1 ?d2 ?_)
  case d1 => simp; omega
  case d2 => omega
  intro v2 w2 ho2 hg2 _
  have hb2 : Below w.heap.size w w2 := hb1.grown hg2 hs1 (fun k hk => (ho1.lt k hk).1)
  have HO := Lib.hid ho2
  clear ho2 hr1
  go_wp2
  go_ret
  exact ⟨_, rfl, by have := HO.out; simpa using this, hb2⟩

/-- what a number that may be below 0 is folded to -/
def foldN (n : Int) : Nat := if n < 0 then (-2 * n - 1).toNat else (2 * n).toNat

theorem foldN_int (n : Int) : (if n < 0 then -2 * n - 1 else 2 * n) = (foldN n : Int) := by unfold foldN; split <;> omega

theorem foldN_lt {n : Int} (h1 : -2147483648 ≤ n) (h2 : n ≤ 2147483647) : foldN n ≤ 4294967295 := by unfold foldN; split <;> omega

theorem u64_of_le {v m : Nat} (h : v ≤ m) (hm : m < 18446744073709551616) : U64 v := Nat.lt_of_le_of_lt h hm

set_option maxHeartbeats 400000 in
set_option maxRecDepth 100000 in
theorem text_any (v0 : Value) (l : List UInt8) (s : ByteArray) (w : World) (hr : Rd w v0 l) (hv : l = [] ∨ ∀ g, v0.ownBlock = some g → g < w.heap.size) (hl : l.length ≤ 400000) (h1 : s.size ≤ 10000) :
    Calls Try.prog 25 #[v0, .string s] w fun e w' => ∃ v, e = .returned v ∧ Own w' w.heap.size v (l ++ (nb s.size ++ sb s)) ∧ Below w.heap.size w w' := by
  have hu : U64 s.size := u64_of_le h1 (by decide)
  have hw := nb_len10 hu.out
  go_enter Try.func25, Try.ntmps25
  go_wp2_with fail
  refine (width_any _ _ hu).mono ?_
  rintro e w' ⟨rfl, rfl⟩
  go_wp2_with fail
  refine (room_any v0 l _ _ hr hv (by omega) (by omega) (by omega)).mono ?_
  rintro e w1 ⟨v1, rfl, ho1, hb1⟩
  go_wp2_with fail
  refine (put_any _ _ _ _ _ hu hb1.size ho1 (by omega)).mono ?_
  rintro e w2 ⟨v2, rfl, ho2, hb2⟩
  have hs2 := Nat.le_trans hb1.size hb2.size
  go_wp2_with (at_builtin; refine wp_app_str rfl _ _ rfl w.heap.size _ (l ++ nb s.size) rfl ho2 s rfl ?d1 ?d2 ?_)
  case d1 => simp; omega
  case d2 => omega
  intro v3 w3 ho3 hg3 _
  have hb3 : Below w.heap.size w w3 := (hb1.trans hb2).grown hg3 hs2 (fun k hk => (ho2.lt k hk).1)
  have HO := Lib.hid ho3
  clear ho3
  go_wp2
  go_ret
  exact ⟨_, rfl, by have := HO.out; simpa using this, hb3⟩

end Go.Proofs.Ytnpbhpidciiciaa
