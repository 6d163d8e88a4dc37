/- Texts that the proof is made of, joined. No condition. -/
import Derived.Test.YtijnimjmimeefaaGreatRows
import Derived.WalkKit
import Derived.WalkSpells
import Derived.WalkLawsBesides
import Derived.Lib.Hide
import Derived.Lib.AppendStr
import Derived.Laws.AppendOwnNone
import Derived.Laws.BitsAllLaws
import Derived.Deep.QuietTactic
import Derived.BigQuiet
import Derived.OpenShut
import Derived.SliceStrings
import Derived.Shelf.Strings.Builder1
import Derived.Shelf.Small.Wraps
import Derived.Shelf.Strings.BuilderF
import Derived.Shelf.Strings.BuilderK
import Derived.Shelf.LaysM
import Derived.Shelf.Strconv.Clone
import Derived.Shelf.Strings.Search1
import Derived.Shelf.Strings.Search2
import Derived.Shelf.Strings.Cut
import Derived.Shelf.Strings.Shaped
import Derived.Shelf.Strings.Prefix
import Derived.Shelf.Slices.Equal
import Derived.Shelf.Slices.Empties2
import Derived.Shelf.Bytes.SlSearch0
import Derived.Ground.SlbCloneProg
import Derived.Shelf.Bytes.SlClone
import Derived.Shelf.Bytes.SlSmallAll
import Derived.Shelf.Bytes.SlEqualAll
import Derived.Shelf.Bytes.Small
import Derived.Test.YtijnimjmimeefaaGreatProg
import Derived.Test.YtijnimjmimeefaaGreatSCH
set_option linter.unusedVariables false
set_option linter.unusedSimpArgs false
set_option maxRecDepth 100000
set_option maxHeartbeats 16000000
namespace Go.Proofs.YtijnimjmimeefaaGreat
open Go.RowKit
def nb (v : Nat) : List UInt8 :=
 if v < 128 then [UInt8.ofNat v] else UInt8.ofNat (v % 128 + 128) :: nb (v / 128)
termination_by v
decreasing_by omega
theorem nb_small {v : Nat} (h : v < 128) : nb v = [UInt8.ofNat v] := by rw [nb, if_pos h]
theorem nb_big {v : Nat} (h : ¬ v < 128) : nb v = UInt8.ofNat (v % 128 + 128) :: nb (v / 128) := by rw [nb, if_neg h]
theorem nb_pos (v : Nat) : 0 < (nb v).length := by
 by_cases h : v < 128
 ·rw [nb_small h]; simp
 ·rw [nb_big h]; simp
theorem nb_len : ∀ (k v : Nat), v < 128 ^ (k + 1) -> (nb v).length <= k + 1
 | 0, v, h => by rw [nb_small (by omega)]; simp
 | k + 1, v, h => by
  by_cases hv : v < 128
  ·rw [nb_small hv]; simp
  ·rw [nb_big hv]
   have := nb_len k (v / 128) (by rw [Nat.pow_succ] at h; omega)
   simp; omega
theorem nb_len10 {v : Nat} (h : v < 18446744073709551616) : (nb v).length <= 10 :=
 nb_len 9 v (Nat.lt_of_lt_of_le h (by decide))
def cnt (z : Int) : Nat := z.toNat
def U64 (v : Nat) : Prop := v < 18446744073709551616
theorem U64.out {v : Nat} (h : U64 v) : v < 18446744073709551616 := h
theorem U64.div {v : Nat} (h : U64 v) (k : Nat) : U64 (v / k) := Nat.lt_of_le_of_lt (Nat.div_le_self v k) h
theorem U64.le {v u : Nat} (h : U64 v) (hu : u <= v) : U64 u := Nat.lt_of_le_of_lt hu h
def u8 (x : UInt8) : Value := .int .u8 (x.toNat : Int)
theorem u8_ofNat {n : Nat} (h : n < 256) : u8 (UInt8.ofNat n) = .int .u8 (n : Int) := by
 simp [u8, Nat.mod_eq_of_lt h]
theorem u8_one (l : List UInt8) : ∀ u ∈ l.map u8, u.oneCell' = true := by
 intro u hu
 obtain ⟨_, _, rfl⟩ := List.mem_map.1 hu
 rfl
def Rd (w : World) (v : Value) (l : List UInt8) : Prop :=
 ∃ (p : Option Addr) (cap : Nat), v = .slice p l.length cap /\ l.length <= cap /\ (p = none -> cap = 0) /\
  ∀ a, p = some a -> ∀ (i : Nat) x, l[i]? = some x -> w.cell? (a.add i) = some (u8 x)
def Own (w : World) (B : Nat) (v : Value) (l : List UInt8) : Prop := w.ownsRow B 5 1 v l.length (l.map u8)
theorem ret_int {k : IntKind} {a b : Int} (h : a = b) : Ending.returned (.int k a) = .returned (.int k b) := by rw [h]
theorem Tryz.infoB : (Tryz.prog.info? 5).map (fun i => (i.zero, i.size, i.bytes)) = some (some (.int .u8 0), 1, 1) := by kernel_rfl
theorem Own.len {w : World} {B : Nat} {v : Value} {l : List UInt8} (h : Own w B v l) : ∃ a c, v = .slice a l.length c /\ l.length <= c /\ c <= maxLen := by
 rcases h.2 with ⟨rfl, hn⟩ | ⟨g, cap, cur, rfl, _, _, h1, h2, _⟩
 ·exact ⟨none, 0, by rw [hn], by omega, by unfold maxLen; omega⟩
 ·exact ⟨_, cap, rfl, h1, h2⟩
theorem Own.rd {w : World} {B : Nat} {v : Value} {l : List UInt8} (h : Own w B v l) : Rd w v l := by
 have hh := h
 rcases h.2 with ⟨rfl, hn⟩ | ⟨g, cap, cur, rfl, hb, hg, h1, h2, h3, h4⟩
 ·exact ⟨none, 0, by rw [hn], by omega, fun _ => rfl, fun a ha => by cases ha⟩
 ·refine ⟨some ⟨g, 0, none⟩, cap, rfl, h1, (fun h => by cases h), fun a ha => ?_⟩
  cases ha
  intro i x hx
  have := World.ownsRow.cells hh (g := g) rfl i (u8 x) (by simp [hx])
  exact this
theorem add_block (a : Addr) (i : Nat) : (a.add i).block = a.block := by unfold Addr.add; split <;> rfl
theorem Rd.below {B : Nat} {w w' : World} {v : Value} {l : List UInt8} (h : Rd w v l) (hb : Below B w w') (hv : l = [] ∨ ∀ g, v.ownBlock = some g -> g < B) : Rd w' v l := by
 obtain ⟨p, cap, rfl, h1, h2, h3⟩ := h
 rcases hv with rfl | hv
 ·exact ⟨p, cap, rfl, h1, h2, fun a ha i x hx => by simp at hx⟩
 refine ⟨p, cap, rfl, h1, h2, fun a ha i x hx => ?_⟩
 have hlt := hv a.block (by rw [ha]; rfl)
 rw [hb.cell (p := a.add i) (by rw [add_block]; exact hlt)]
 exact h3 a ha i x hx
theorem Own.kept {w w' : World} {B : Nat} {v : Value} {l : List UInt8} {row : Option Nat} (h : Own w B v l) (hg : w.grownBy w' row) (hne : v.ownBlock = none ∨ v.ownBlock ≠ row) : Own w' B v l := World.ownsRow.kept h hg hne
theorem Own.mono {w : World} {B B' : Nat} {v : Value} {l : List UInt8} (h : Own w B v l) (hB : B' <= B) : Own w B' v l := by
 refine ⟨h.1, ?_⟩
 rcases h.2 with h' | ⟨g, cap, cur, e, hb, r⟩
 ·exact .inl h'
 ·exact .inr ⟨g, cap, cur, e, Nat.le_trans hB hb, r⟩
theorem Own.below {w w' : World} {B C : Nat} {v : Value} {l : List UInt8} (h : Own w B v l) (hb : Below C w w') (hC : ∀ g, v.ownBlock = some g -> g < C) : Own w' B v l := by
 refine ⟨h.1, ?_⟩
 rcases h.2 with h' | ⟨g, cap, cur, e, hB, hg, r⟩
 ·exact .inl h'
 ·refine .inr ⟨g, cap, cur, e, hB, ?_, r⟩
  rw [hb.block g (hC g (by rw [e]; rfl))]
  exact hg
end Go.Proofs.YtijnimjmimeefaaGreat
namespace Go.Proofs.YtijnimjmimeefaaGreat
open Go.RowKit
theorem wp_app {w : World} {ops : Array Oper} {rest : List Oper} {o : Oper} {a : Act} {Q : Exit -> Act -> World -> Prop} (hgd : o.guard = none) (s x : Operand)
  (ho : o.op = .call { callee := .builtin .append, args := #[s, x], argTypes := #[26, 26] })
  (B : Nat) (v : Value) (l : List UInt8) (hs : a.eval s = v) (hown : Own w B v l) (vx : Value) (m : List UInt8) (hx : a.eval x = vx) (hrd : Rd w vx m)
  (hb : l.length + m.length <= 140737488355328) (hbase : B <= w.heap.size)
  (h : ∀ v' w', Own w' B v' (l ++ m) -> w.grownBy w' v.ownBlock -> (v' = .slice none 0 0 ↔ v = .slice none 0 0 /\ m = []) -> wpList Tryz.prog ops Q rest (a.put o.dst v') w') :
  wpList Tryz.prog ops Q (o :: rest) a w := by
 obtain ⟨i0, hi, hz0, hz1, hz2⟩ := info_parts Tryz.infoB
 obtain ⟨p, cap, rfl, hle, hn, hc⟩ := hrd
 cases p with
 | none =>
  have hc0 := hn rfl
  have hl0 : m.length = 0 := by omega
  have hm : m = [] := List.eq_nil_of_length_eq_zero hl0
  subst hm
  subst hc0
  refine wpList_append_own_none hgd s x 26 ho B 5 i0 1 Tryz.underlying26 hi v l.length (l.map u8) hs hown hx ?_
  refine h v w (by rw [List.append_nil]; exact hown) ⟨rfl, rfl, rfl, Nat.le_refl _, fun _ _ _ => rfl⟩ ?_
  exact ⟨fun h => ⟨h, rfl⟩, fun h => h.1⟩
 | some ad =>
  refine wpList_append_own w hgd s x 26 ho B 5 i0 (.int .u8 0) 1 1 Tryz.underlying26 hi hz0 hz1 hz2 rfl (by decide) v l.length (l.map u8) hs hown ad m.length cap (m.map u8) hx (by simp) ?_ (u8_one m)
   (by unfold maxLen; omega) (by omega) hbase ?_
  ·intro j u hj
   rw [List.getElem?_map, Option.map_eq_some_iff] at hj
   obtain ⟨b, hb1, rfl⟩ := hj
   exact hc ad rfl j b hb1
  ·intro v' w' h1 h2 h3
   refine h v' w' ?_ h2 ?_
   ·unfold Own
    rw [List.length_append, List.map_append]
    exact h1
   ·rw [h3]
    exact ⟨fun h => ⟨h.1, List.eq_nil_of_length_eq_zero h.2⟩, fun h => ⟨h.1, by rw [h.2]; rfl⟩⟩
def sb (s : ByteArray) : List UInt8 := s.data.toList
theorem sb_len (s : ByteArray) : (sb s).length = s.size := by
 show s.data.toList.length = s.data.size
 simp
theorem wp_app_str {w : World} {ops : Array Oper} {rest : List Oper} {o : Oper} {a : Act} {Q : Exit -> Act -> World -> Prop} (hgd : o.guard = none) (s x : Operand)
  (ho : o.op = .call { callee := .builtin .append, args := #[s, x], argTypes := #[26, 9] })
  (B : Nat) (v : Value) (l : List UInt8) (hs : a.eval s = v) (hown : Own w B v l) (t : ByteArray) (hx : a.eval x = .string t)
  (hb : l.length + t.size <= 140737488355328) (hbase : B <= w.heap.size)
  (h : ∀ v' w', Own w' B v' (l ++ sb t) -> w.grownBy w' v.ownBlock -> (v' = .slice none 0 0 ↔ v = .slice none 0 0 /\ t.size = 0) -> wpList Tryz.prog ops Q rest (a.put o.dst v') w') :
  wpList Tryz.prog ops Q (o :: rest) a w := by
 obtain ⟨i0, hi, hz0, hz1, hz2⟩ := info_parts Tryz.infoB
 refine Lib.wpList_append_own_string w hgd s x 26 9 ho B 5 i0 Tryz.underlying26 Tryz.underlying9 hi hz0 hz1 hz2 v l.length (l.map u8) hs hown t hx (by unfold maxLen; omega) (by omega) hbase ?_
 intro v' w' h1 h2 h3
 refine h v' w' ?_ h2 h3
 unfold Own
 rw [List.length_append, List.map_append, sb_len]
 have e : Lib.strCells t = (sb t).map u8 := rfl
 rw [<- e]
 exact h1
end Go.Proofs.YtijnimjmimeefaaGreat
namespace Go.Proofs.YtijnimjmimeefaaGreat
open Go.RowKit
theorem or128_nat : ∀ x, x < 256 -> x ||| 128 = x % 128 + 128 := by decide +kernel
theorem or128 (u : Nat) : bits .or .u8 ((u : Int) % 256) 128 = ((u % 128 + 128 : Nat) : Int) := by
 have h : ((u : Int) % 256) = ((u % 256 : Nat) : Int) := by omega
 rw [h, show (128 : Int) = ((128 : Nat) : Int) from rfl, u8_or_nat _ _ (by omega) (by omega), or128_nat _ (by omega)]
 omega
theorem not128 (c : Nat) (h : c < 256) : bits .andNot .u8 (c : Int) 128 = ((c % 128 : Nat) : Int) := by
 rw [show (128 : Int) = ((128 : Nat) : Int) from rfl, u8_andNot_nat _ _ (by omega) (by omega)]
 rw [show 255 - 128 = 127 from rfl, nat_mask7]
def goOn (u : Nat) : UInt8 := UInt8.ofNat (u % 128 + 128)
theorem u8_goOn (u : Nat) : u8 (goOn u) = .int .u8 ((u % 128 + 128 : Nat) : Int) := u8_ofNat (by omega)
theorem join (v x i : Nat) (hv : v < 2 ^ i) (hx : U64 (x * 2 ^ i)) (hv' : U64 v) : bits .or .u64 (v : Int) ((x * 2 ^ i : Nat) : Int) = ((v + x * 2 ^ i : Nat) : Int) := by
 rw [u64_or_nat _ _ hv'.out hx.out, Nat.or_comm, nat_join i _ _ (Nat.mul_mod_left x (2 ^ i)) hv, Nat.add_comm]
theorem wrap_u64_nat {n : Nat} (h : U64 n) : IntKind.u64.wrap (n : Int) = (n : Int) := by
 have := h.out
 have e : IntKind.u64.wrap (n : Int) = (n : Int) % 18446744073709551616 := by simp [IntKind.wrap, IntKind.bits, IntKind.signed]
 rw [e]
 omega
theorem pow_step {n i u : Nat} (hu : u < 2 ^ (7 * i)) : u + n % 128 * 2 ^ (7 * i) < 2 ^ (7 * (i + 1)) := by
 have e : 2 ^ (7 * (i + 1)) = 128 * 2 ^ (7 * i) := by rw [show 7 * (i + 1) = 7 + 7 * i from by omega, Nat.pow_add]
 rw [e]
 have h1 : n % 128 * 2 ^ (7 * i) <= 127 * 2 ^ (7 * i) := Nat.mul_le_mul_right _ (by omega)
 omega
theorem pow_u64 {i u : Nat} (hi : i <= 9) (hu : u < 2 ^ (7 * i)) : U64 u :=
 Nat.lt_of_lt_of_le hu (Nat.le_trans (Nat.pow_le_pow_right (by decide) (show 7 * i <= 63 by omega)) (by decide))
theorem step_or (n i u : Nat) (hn : n < 256) (hi : i < 9) (hu : u < 2 ^ (7 * i)) :
  bits .or .u64 (u : Int) (IntKind.u64.wrap (IntKind.u64.wrap (bits .andNot .u8 (n : Int) 128) * 2 ^ (7 * i))) = ((u + n % 128 * 2 ^ (7 * i) : Nat) : Int) := by
 have hlt := pow_u64 (show i + 1 <= 9 by omega) (pow_step (n := n) hu)
 have hx : U64 (n % 128 * 2 ^ (7 * i)) := hlt.le (by omega)
 have h7 : U64 (n % 128) := Nat.lt_of_lt_of_le (Nat.mod_lt _ (by decide)) (by decide)
 rw [not128 n hn, wrap_u64_nat h7]
 have e : ((n % 128 : Nat) : Int) * 2 ^ (7 * i) = ((n % 128 * 2 ^ (7 * i) : Nat) : Int) := by simp
 rw [e, wrap_u64_nat hx, join u (n % 128) (7 * i) hu hx (pow_u64 (by omega) hu)]
end Go.Proofs.YtijnimjmimeefaaGreat
namespace Go.Proofs.YtijnimjmimeefaaGreat
open Go.RowKit
theorem Own.alloc {w : World} {B : Nat} {v : Value} {l : List UInt8} (h : Own w B v l) (o : Obj) : Own (w.alloc o) B v l := World.ownsRow.alloc h o
theorem Own.lt {w : World} {B : Nat} {v : Value} {l : List UInt8} (h : Own w B v l) : ∀ k, v.ownBlock = some k -> B <= k /\ k < w.heap.size := World.ownsRow.lt h
theorem rd_new1 (w : World) (v : Value) (t : TypeId) (x : UInt8) (hv : v = u8 x) : Rd (w.alloc (.cells #[v] t)) (.slice (some ⟨w.heap.size, 0, none⟩) 1 1) [x] := by
 subst hv
 refine ⟨_, 1, rfl, by simp, (fun h => by cases h), fun a ha => ?_⟩
 cases ha
 intro i y hy
 match i, hy with
 | 0, hy =>
  simp at hy; subst hy
  simp [Addr.add]
theorem put_any (B : Nat) (v0 : Value) (l : List UInt8) (n : Nat) (w : World) (hn : U64 n) (hB : B <= w.heap.size) (ho : Own w B v0 l) (hl : l.length <= 100000000) :
  Calls Tryz.prog 130 #[v0, .int .u64 n] w fun e w' => ∃ v, e = .returned v /\ Own w' B v (l ++ nb n) /\ Below B w w' := by
 go_enter Tryz.func130, Tryz.ntmps130
 go_wp2
 go_loopw [0, 1] (fun s x wr => ∃ (u : Nat) (m : List UInt8), U64 u /\ x = .int .u64 u /\ m.length + (nb u).length = l.length + (nb n).length /\ m ++ nb u = l ++ nb n /\ Own wr B s m /\ Below B w wr) (fun _ x _ => (intOf x).toNat)
 case atStart => exact ⟨n, l, hn, rfl, rfl, rfl, ho, Below.refl _ _⟩
 case round =>
  obtain ⟨u, m, hu, rfl, hk, hm, hown, hbel⟩ := hrel
  have hp := nb_pos u
  have H := hid hk; clear hk
  have HM := hid hm; clear hm
  have hml : m.length <= 100000010 := by have := H.out; have := nb_len10 hn.out; omega
  have hbs : B <= wr.heap.size := Nat.le_trans hB hbel.size
  by_cases hlt : u < 128
  ·go_wp2_with (at_builtin; refine wp_app rfl _ _ rfl B _ m rfl (hown.alloc _) _ [UInt8.ofNat u] rfl (rd_new1 _ _ _ _ ?c1) ?c2 ?c3 ?_)
   case c1 => exact (u8_ofNat (by omega)).symm
   case c2 => simp; omega
   case c3 => simp; omega
   intro v' w' h1 h2 _
   have hlt' := hown.lt
   have hfin : Own w' B v' (l ++ nb n) := by have := HM.out; rw [<- this, nb_small hlt]; exact h1
   have hb' : Below B w w' := (hbel.alloc hbs _).grown h2 (by simp; omega) (fun k hk => (hlt' k hk).1)
   clear h1 h2 hown
   have HF := hid hfin; clear hfin
   go_wp2
   go_ret
   exact ⟨_, rfl, HF.out, hb'⟩
  ·go_wp2_with (at_builtin; refine wp_app rfl _ _ rfl B _ m rfl (hown.alloc _) _ [goOn u] rfl (rd_new1 _ _ _ _ ?c1) ?c2 ?c3 ?_)
   case c1 => rw [u8_goOn, or128]
   case c2 => simp; omega
   case c3 => simp; omega
   intro v' w' h1 h2 _
   have hlt' := hown.lt
   have hb' : Below B w w' := (hbel.alloc hbs _).grown h2 (by simp; omega) (fun k hk => (hlt' k hk).1)
   go_wp2
   go_roundw
   case rel => exact ⟨u / 128, m ++ [goOn u], hu.div _, by go_num, by have := H.out; rw [nb_big hlt] at this; simp at this ⊢; omega, by have := HM.out; rw [nb_big hlt] at this; rw [<- this]; simp [goOn], h1, hb'⟩
   case measure => simp [intOf]; omega
end Go.Proofs.YtijnimjmimeefaaGreat
namespace Go.Proofs.YtijnimjmimeefaaGreat
open Go.RowKit
theorem count_any (n : Int) (w : World) (h1 : -9223372036854775808 <= n) (h2 : n <= 9223372036854775807) :
  Calls Tryz.prog 128 #[.int .i64 n] w fun e w' => e = .returned (.int .u64 (cnt n : Int)) /\ w = w' := by
 by_cases h : 0 <= n
 all_goals
  go_enter Tryz.func128, Tryz.ntmps128
  go_wp2
  go_ret
  exact ⟨ret_int (by unfold cnt; omega), rfl⟩
theorem fold_any (n : Int) (w : World) (h1 : -2147483648 <= n) (h2 : n <= 2147483647) :
  Calls Tryz.prog 211 #[.int .i32 n] w fun e w' => e = .returned (.int .u64 (if n < 0 then -2 * n - 1 else 2 * n)) /\ w = w' := by
 by_cases h : n < 0
 all_goals
  go_enter Tryz.func211, Tryz.ntmps211
  go_wp2
  go_ret
  exact ⟨rfl, rfl⟩
theorem unfold_any (v : Int) (w : World) (h1 : 0 <= v) (h2 : v <= 4294967295) :
  Calls Tryz.prog 205 #[.int .u64 v] w fun e w' => e = .returned (.int .i32 (if v % 2 = 1 then - (v / 2) - 1 else v / 2)) /\ w = w' := by
 by_cases h : v % 2 = 1
 all_goals
  go_enter Tryz.func205, Tryz.ntmps205
  go_wp2
  go_ret
  exact ⟨rfl, rfl⟩
theorem width_any (v : Nat) (w : World) (h1 : U64 v) :
  Calls Tryz.prog 127 #[.int .u64 v] w fun e w' => e = .returned (.int .i64 (nb v).length) /\ w = w' := by
 have hl := nb_len10 h1.out
 go_enter Tryz.func127, Tryz.ntmps127
 go_wp2
 go_loop [0, 3] (fun x n => ∃ (k u : Nat), U64 u /\ x = .int .u64 u /\ n = .int .i64 k /\ k + (nb u).length = 1 + (nb v).length) (fun x _ => (intOf x).toNat)
 case atStart => exact ⟨1, v, h1, rfl, rfl, rfl⟩
 case round =>
  obtain ⟨k, u, hu, rfl, rfl, hk⟩ := hrel
  have hp := nb_pos u
  have hk11 : k <= 10 := by omega
  have H := hid hk; clear hk
  by_cases hlt : u < 128
  ·go_wp2
   go_ret
   exact ⟨ret_int (by have := H.out; rw [nb_small hlt] at this; simp at this; omega), rfl⟩
  ·go_wp2
   go_round
   case rel => exact ⟨k + 1, u / 128, U64.div hu _, by go_num, by go_num, by have := H.out; rw [nb_big hlt] at this; simp at this; omega⟩
   case measure => simp [intOf]; omega
def wholeR (v s l m : Nat) : Nat × Nat × Nat :=
 if l = 0 /\ 1 < s then (0, 0, 21) else if m < v then (0, 0, 22) else (v, s, 0)
def tri (r : Nat × Nat × Nat) : Value := .tuple #[.int .u64 r.1, .int .i64 r.2.1, .int .i64 r.2.2]
theorem tri_eq (r : Nat × Nat × Nat) (a b c : Nat) (h : r = (a, b, c)) : Ending.returned (.tuple #[.int .u64 a, .int .i64 b, .int .i64 c]) = Ending.returned (tri r) := by rw [h]; rfl
theorem whole_any (v s l m : Nat) (w : World) (_hv : U64 v) (hs : s < 100) (hl : l < 256) (_hm : U64 m) :
  Calls Tryz.prog 176 #[.int .u64 v, .int .i64 s, .int .u8 l, .int .u64 m] w fun e w' => e = .returned (tri (wholeR v s l m)) /\ w = w' := by
 by_cases hc : l = 0
 ·subst hc
  by_cases h1 : 1 < s
  ·go_enter Tryz.func176, Tryz.ntmps176
   go_wp2
   go_ret3
   exact ⟨tri_eq _ 0 0 21 (by unfold wholeR; rw [if_pos ⟨rfl, h1⟩]), rfl⟩
  ·by_cases h3 : m < v
   ·go_enter Tryz.func176, Tryz.ntmps176
    go_wp2
    go_ret3
    exact ⟨tri_eq _ 0 0 22 (by unfold wholeR; rw [if_neg (by omega), if_pos h3]), rfl⟩
   ·go_enter Tryz.func176, Tryz.ntmps176
    go_wp2
    go_ret3
    exact ⟨tri_eq _ v s 0 (by unfold wholeR; rw [if_neg (by omega), if_neg h3]), rfl⟩
 ·have hcb : ((l : Int) == 0) = false := beq_eq_false_iff_ne.2 (by omega)
  by_cases h3 : m < v
  ·go_enter Tryz.func176, Tryz.ntmps176
   go_wp2
   go_ret3
   exact ⟨tri_eq _ 0 0 22 (by unfold wholeR; rw [if_neg (by omega), if_pos h3]), rfl⟩
  ·go_enter Tryz.func176, Tryz.ntmps176
   go_wp2
   go_ret3
   exact ⟨tri_eq _ v s 0 (by unfold wholeR; rw [if_neg (by omega), if_neg h3]), rfl⟩
theorem whole_tup (v s l m : Nat) (w : World) (hv : U64 v) (hs : s < 100) (hl : l < 256) (hm : U64 m) :
  Calls Tryz.prog 176 #[.int .u64 v, .int .i64 s, .int .u8 l, .int .u64 m] w fun e w' => ∃ a b c : Nat, Hid (wholeR v s l m = (a, b, c)) /\ e = .returned (.tuple #[.int .u64 a, .int .i64 b, .int .i64 c]) /\ w = w' :=
 (whole_any v s l m w hv hs hl hm).mono fun _ _ ⟨he, hw⟩ => ⟨_, _, _, hid rfl, he, hw⟩
end Go.Proofs.YtijnimjmimeefaaGreat
namespace Go.Proofs.YtijnimjmimeefaaGreat
open Go.RowKit
theorem wp_mk {w : World} {ops : Array Oper} {rest : List Oper} {o : Oper} {a : Act} {Q : Exit -> Act -> World -> Prop} (hgd : o.guard = none) (s x : Operand)
  (ho : o.op = Op.makeSlice 26 s x)
  (B : Nat) (C : Int) (n : Nat) (hs : a.eval s = .int .i64 0) (hx : a.eval x = .int .i64 C) (hC : C = (n : Int)) (hn : n <= 140737488355328) (hbase : B <= w.heap.size)
  (h : ∀ w', Own w' B (.slice (some ⟨w.heap.size, 0, none⟩) 0 n) [] -> w.grownBy w' none -> wpList Tryz.prog ops Q rest (a.put o.dst (.slice (some ⟨w.heap.size, 0, none⟩) 0 n)) w') :
  wpList Tryz.prog ops Q (o :: rest) a w := by
 obtain ⟨i0, hi, hz0, hz1, hz2⟩ := info_parts Tryz.infoB
 exact wpList_make_own w hgd s x 26 ho B 5 i0 (.int .u8 0) 1 Tryz.underlying26 hi hz0 hz1 .i64 .i64 C n hs hx hC (by rw [hz2]; omega) (by unfold maxLen; omega) hbase h
theorem below_grown_none {B : Nat} {w w' : World} (hg : w.grownBy w' none) (hB : B <= w.heap.size) : Below B w w' := (Below.refl _ _).grown hg hB (fun k hk => by cases hk)
theorem room_any (v0 : Value) (l : List UInt8) (n : Int) (w : World) (hr : Rd w v0 l) (hv : l = [] ∨ ∀ g, v0.ownBlock = some g -> g < w.heap.size) (hl : l.length <= 50000000) (h0 : 0 <= n) (h1 : n <= 50000000) :
  Calls Tryz.prog 129 #[v0, .int .i64 n] w fun e w' => ∃ v, e = .returned v /\ Own w' w.heap.size v l /\ Below w.heap.size w w' := by
 obtain ⟨p, cap, rfl, hx⟩ := id hr
 go_enter Tryz.func129, Tryz.ntmps129
 go_wp2_with (at_make; refine wp_mk rfl _ _ rfl w.heap.size _ (l.length + n.toNat) rfl rfl ?c1 ?c2 ?c3 ?_)
 case c1 => omega
 case c2 => omega
 case c3 => omega
 intro w1 ho1 hg1
 have hb1 : Below w.heap.size w w1 := below_grown_none hg1 (Nat.le_refl _)
 have hr1 := hr.below hb1 hv
 have hs1 := hb1.size
 go_wp2_with (at_builtin; refine wp_app rfl _ _ rfl w.heap.size _ [] rfl ho1 _ l rfl hr1 ?d1 ?d2 ?_)
 case d1 => simp; omega
 case d2 => omega
 intro v2 w2 ho2 hg2 _
 have hb2 : Below w.heap.size w w2 := hb1.grown hg2 hs1 (fun k hk => (ho1.lt k hk).1)
 have HO := hid ho2
 clear ho2 hr1
 go_wp2
 go_ret
 exact ⟨_, rfl, by have := HO.out; simpa using this, hb2⟩
def foldN (n : Int) : Nat := if n < 0 then (-2 * n - 1).toNat else (2 * n).toNat
theorem foldN_int (n : Int) : (if n < 0 then -2 * n - 1 else 2 * n) = (foldN n : Int) := by unfold foldN; split <;> omega
theorem foldN_lt {n : Int} (h1 : -2147483648 <= n) (h2 : n <= 2147483647) : foldN n <= 4294967295 := by unfold foldN; split <;> omega
theorem fold_nat (n : Int) (w : World) (h1 : -2147483648 <= n) (h2 : n <= 2147483647) :
  Calls Tryz.prog 211 #[.int .i32 n] w fun e w' => e = .returned (.int .u64 (foldN n : Int)) /\ w = w' :=
 (fold_any n w h1 h2).mono fun _ _ ⟨he, hw⟩ => ⟨by rw [he, foldN_int], hw⟩
theorem u64_of_le {v m : Nat} (h : v <= m) (hm : m < 18446744073709551616) : U64 v := Nat.lt_of_le_of_lt h hm
theorem int_any (v0 : Value) (l : List UInt8) (n : Int) (w : World) (hr : Rd w v0 l) (hv : l = [] ∨ ∀ g, v0.ownBlock = some g -> g < w.heap.size) (hl : l.length <= 50000000) (h1 : -2147483648 <= n) (h2 : n <= 2147483647) :
  Calls Tryz.prog 201 #[v0, .int .i32 n] w fun e w' => ∃ v, e = .returned v /\ Own w' w.heap.size v (l ++ nb (foldN n)) /\ Below w.heap.size w w' := by
 have hu : U64 (foldN n) := u64_of_le (foldN_lt h1 h2) (by decide)
 have hw := nb_len10 hu.out
 go_enter Tryz.func201, Tryz.ntmps201
 go_wp2_with fail
 refine (fold_nat _ _ h1 h2).mono ?_
 rintro e w' ⟨rfl, rfl⟩
 go_wp2_with fail
 refine (width_any _ _ hu).mono ?_
 rintro e w' ⟨rfl, rfl⟩
 go_wp2_with fail
 refine (room_any v0 l _ _ hr hv hl (by omega) (by omega)).mono ?_
 rintro e w1 ⟨v1, rfl, ho1, hb1⟩
 go_wp2_with fail
 refine (put_any _ _ _ _ _ hu hb1.size ho1 (by omega)).mono ?_
 rintro e w2 ⟨v2, rfl, ho2, hb2⟩
 go_wp2
 go_ret
 exact ⟨_, rfl, ho2, hb1.trans hb2⟩
theorem text_any (v0 : Value) (l : List UInt8) (s : ByteArray) (w : World) (hr : Rd w v0 l) (hv : l = [] ∨ ∀ g, v0.ownBlock = some g -> g < w.heap.size) (hl : l.length <= 40000000) (h1 : s.size <= 10000) :
  Calls Tryz.prog 83 #[v0, .string s] w fun e w' => ∃ v, e = .returned v /\ Own w' w.heap.size v (l ++ (nb s.size ++ sb s)) /\ Below w.heap.size w w' := by
 have hu : U64 s.size := u64_of_le h1 (by decide)
 have hw := nb_len10 hu.out
 go_enter Tryz.func83, Tryz.ntmps83
 go_wp2_with fail
 refine (width_any _ _ hu).mono ?_
 rintro e w' ⟨rfl, rfl⟩
 go_wp2_with fail
 refine (room_any v0 l _ _ hr hv (by omega) (by omega) (by omega)).mono ?_
 rintro e w1 ⟨v1, rfl, ho1, hb1⟩
 go_wp2_with fail
 refine (put_any _ _ _ _ _ hu hb1.size ho1 (by omega)).mono ?_
 rintro e w2 ⟨v2, rfl, ho2, hb2⟩
 have hs2 := Nat.le_trans hb1.size hb2.size
 go_wp2_with (at_builtin; refine wp_app_str rfl _ _ rfl w.heap.size _ (l ++ nb s.size) rfl ho2 s rfl ?d1 ?d2 ?_)
 case d1 => simp; omega
 case d2 => omega
 intro v3 w3 ho3 hg3 _
 have hb3 : Below w.heap.size w w3 := (hb1.trans hb2).grown hg3 hs2 (fun k hk => (ho2.lt k hk).1)
 have HO := hid ho3
 clear ho3
 go_wp2
 go_ret
 exact ⟨_, rfl, by have := HO.out; simpa using this, hb3⟩
end Go.Proofs.YtijnimjmimeefaaGreat
namespace Go.Proofs.YtijnimjmimeefaaGreat
open Go.RowKit
def RdI (w : World) (v : Value) (zs : List Int) : Prop :=
 ∃ (p : Option Addr) (cap : Nat), v = .slice p zs.length cap /\ (∀ a, p = some a -> zs ≠ [] -> a.spot = none) /\ (p = none -> zs = []) /\
  (∀ (i : Nat) x, zs[i]? = some x -> -9223372036854775808 <= x /\ x <= 9223372036854775807) /\
  ∀ a, p = some a -> ∀ (i : Nat) x, zs[i]? = some x -> w.cell? ⟨a.block, a.off + i, none⟩ = some (.int .i64 x)
def nums (zs : List Int) : List UInt8 := zs.flatMap fun z => nb (cnt z)
theorem nums_snoc (zs : List Int) (k : Nat) (z : Int) (h : zs[k]? = some z) : nums (zs.take (k + 1)) = nums (zs.take k) ++ nb (cnt z) := by
 obtain ⟨hk, rfl⟩ := List.getElem?_eq_some_iff.1 h
 rw [List.take_succ_eq_append_getElem hk, nums, nums, List.flatMap_append, List.flatMap_cons, List.flatMap_nil, List.append_nil]
theorem toNat_u64 {z : Int} (h : z <= 9223372036854775807) : U64 (cnt z) := Nat.lt_of_le_of_lt (m := 9223372036854775807) (by unfold cnt; omega) (by decide)
theorem nums_take_len (zs : List Int) (hz : ∀ (i : Nat) x, zs[i]? = some x -> -9223372036854775808 <= x /\ x <= 9223372036854775807) : ∀ k, (nums (zs.take k)).length <= 10 * k
 | 0 => by simp [nums]
 | k + 1 => by
  have ih := nums_take_len zs hz k
  cases h : zs[k]? with
  | none =>
   have hk := List.getElem?_eq_none_iff.1 h
   rw [List.take_of_length_le (by omega)]
   rw [List.take_of_length_le (by omega)] at ih
   omega
  | some z =>
   rw [nums_snoc zs k z h, List.length_append]
   have := nb_len10 (toNat_u64 (hz k z h).2).out
   omega
theorem num_any (v0 vi : Value) (l : List UInt8) (zs : List Int) (w : World) (hr : Rd w v0 l) (hv : l = [] ∨ ∀ g, v0.ownBlock = some g -> g < w.heap.size) (hl : l.length <= 40000000)
  (hi : RdI w vi zs) (hvi : zs = [] ∨ ∀ g, vi.ownBlock = some g -> g < w.heap.size) (hlz : zs.length <= 1000) :
  Calls Tryz.prog 82 #[v0, vi] w fun e w' => ∃ v, e = .returned v /\ Own w' w.heap.size v (l ++ nums zs) /\ Below w.heap.size w w' := by
 obtain ⟨p, cap, rfl, h1, h2, hz, hc⟩ := id hi
 have hL := nums_take_len zs hz
 by_cases hzn : zs = []
 ·subst hzn
  have hr0 := hr
  go_enter Tryz.func82, Tryz.ntmps82
  go_wp2
  go_loop [5, 13] (fun s i => i = .int .i64 0 /\ s = .int .i64 0) (fun _ _ => 0)
  case atStart => exact ⟨rfl, rfl⟩
  case round =>
   obtain ⟨rfl, rfl⟩ := hrel
   go_wp2_with fail
   refine (room_any v0 l 0 _ hr0 hv (by omega) (by omega) (by omega)).mono ?_
   rintro e w1 ⟨v1, rfl, ho1, hb1⟩
   go_wp2
   go_loop [8, 28] (fun s i => i = .int .i64 0 /\ s = v1) (fun _ _ => 0)
   case atStart => exact ⟨rfl, rfl⟩
   case round =>
    obtain ⟨rfl, rfl⟩ := hrel
    go_wp2
    go_ret
    exact ⟨_, rfl, by simpa [nums] using ho1, hb1⟩
 ·obtain ⟨ad, rfl⟩ : ∃ ad, p = some ad := by
   cases p with
   | none => exact absurd (h2 rfl) hzn
   | some ad => exact ⟨ad, rfl⟩
  obtain ⟨b, off, spot⟩ := ad
  have := h1 _ rfl hzn
  simp only at this
  subst this
  have hbw : b < w.heap.size := (hvi.resolve_left hzn) b rfl
  have hc0 := hc _ rfl
  simp only at hc0
  have HZ := hid hz
  have HC := hid hc0
  clear hz hc0 hc h1 h2 hzn
  go_enter Tryz.func82, Tryz.ntmps82
  go_wp2
  go_loop [5, 13] (fun s i => ∃ k : Nat, k <= zs.length /\ i = .int .i64 k /\ s = .int .i64 (nums (zs.take k)).length) (fun _ i => zs.length - (intOf i).toNat)
  case atStart => exact ⟨0, Nat.zero_le _, rfl, by simp [nums]⟩
  case round =>
   obtain ⟨k, hk, rfl, rfl⟩ := hrel
   by_cases hlt : k < zs.length
   ·obtain ⟨z, hzk⟩ : ∃ z, zs[k]? = some z := ⟨_, List.getElem?_eq_getElem hlt⟩
    have hcell : w.cell? ⟨b, off + k, none⟩ = some (.int .i64 z) := HC.out k z hzk
    have hzb := HZ.out k z hzk
    have hzb1 := hzb.1
    have hzb2 := hzb.2
    have hus := nums_snoc zs k z hzk
    have huu := toNat_u64 hzb2
    have hwz := nb_len10 huu.out
    have hLk := hL k
    have HU := hid hus
    clear hzb hus hzk
    go_wp2_with fail
    refine (count_any z _ hzb1 hzb2).mono ?_
    rintro e w' ⟨rfl, rfl⟩
    go_wp2_with fail
    refine (width_any _ _ huu).mono ?_
    rintro e w' ⟨rfl, rfl⟩
    go_wp2
    go_round
    case rel => exact ⟨k + 1, by omega, by go_num, by rw [HU.out, List.length_append]; go_num⟩
    case measure => simp [intOf]; omega
   ·have hLk := hL k
    go_wp2_with fail
    refine (room_any v0 l _ _ hr hv (by omega) (by omega) (by omega)).mono ?_
    rintro e w1 ⟨v1, rfl, ho1, hb1⟩
    have hs1 := hb1.size
    go_wp2
    go_loopw [8, 28] (fun s i wr => ∃ k : Nat, k <= zs.length /\ i = .int .i64 k /\ Own wr w.heap.size s (l ++ nums (zs.take k)) /\ Below w.heap.size w wr) (fun _ i _ => zs.length - (intOf i).toNat)
    case atStart => exact ⟨0, Nat.zero_le _, rfl, by simpa [nums] using ho1, hb1⟩
    case round =>
     clear ho1 hb1 hs1 hLk
     obtain ⟨k, hk, rfl, ho, hbl⟩ := hrel
     have hsr := hbl.size
     by_cases hlt : k < zs.length
     ·obtain ⟨z, hzk⟩ : ∃ z, zs[k]? = some z := ⟨_, List.getElem?_eq_getElem hlt⟩
      have hcell : wr.cell? ⟨b, off + k, none⟩ = some (.int .i64 z) := (hbl.cell (p := ⟨b, off + k, none⟩) hbw).trans (HC.out k z hzk)
      have hzb := HZ.out k z hzk
      have hzb1 := hzb.1
      have hzb2 := hzb.2
      have huu := toNat_u64 hzb2
      have hLk := hL k
      have hlen : (l ++ nums (zs.take k)).length <= 100000000 := by rw [List.length_append]; omega
      have HU := hid (nums_snoc zs k z hzk)
      have HO := hid ho
      clear hzb hzk ho
      go_wp2_with fail
      refine (count_any z _ hzb1 hzb2).mono ?_
      rintro e w' ⟨rfl, rfl⟩
      go_wp2_with fail
      refine (put_any _ _ _ _ _ huu hsr HO.out hlen).mono ?_
      rintro e w2 ⟨v2, rfl, ho2, hb2⟩
      have HO2 := hid ho2
      have hb3 := hbl.trans hb2
      clear ho2
      go_wp2
      go_roundw
      case rel => exact ⟨k + 1, by omega, by go_num, by rw [HU.out, <- List.append_assoc]; exact HO2.out, hb3⟩
      case measure => simp [intOf]; omega
     ·have HO := hid ho
      clear ho
      go_wp2
      go_ret
      exact ⟨_, rfl, by have := HO.out; rw [List.take_of_length_le (by omega)] at this; exact this, hbl⟩
end Go.Proofs.YtijnimjmimeefaaGreat
namespace Go.Proofs.YtijnimjmimeefaaGreat
open Go.RowKit
def twoN (n : Int) : Nat := min (cnt n) 65535
def two (n : Int) : List UInt8 := [UInt8.ofNat (twoN n % 256), UInt8.ofNat (twoN n / 256)]
theorem int_eq {k : IntKind} {a b : Int} (h : a = b) : Value.int k a = Value.int k b := by rw [h]
theorem rd_new2 (w : World) (v1 v2 : Value) (t : TypeId) (x y : UInt8) (h1 : v1 = u8 x) (h2 : v2 = u8 y) : Rd (w.alloc (.cells #[v1, v2] t)) (.slice (some ⟨w.heap.size, 0, none⟩) 2 2) [x, y] := by
 subst h1
 subst h2
 refine ⟨_, 2, rfl, by simp, (fun h => by cases h), fun a ha => ?_⟩
 cases ha
 intro i z hz
 match i, hz with
 | 0, hz => simp at hz; subst hz; simp [Addr.add]
 | 1, hz => simp at hz; subst hz; simp [Addr.add]
theorem Rd.alloc {w : World} {v : Value} {l : List UInt8} (h : Rd w v l) (o : Obj) (hv : l = [] ∨ ∀ g, v.ownBlock = some g -> g < w.heap.size) : Rd (w.alloc o) v l :=
 h.below ((Below.refl _ _).alloc (Nat.le_refl _) o) hv
theorem two_any (v0 : Value) (l : List UInt8) (n : Int) (w : World) (hr : Rd w v0 l) (hv : l = [] ∨ ∀ g, v0.ownBlock = some g -> g < w.heap.size) (hl : l.length <= 40000000) (h1 : -9223372036854775808 <= n) (h2 : n <= 9223372036854775807) :
  Calls Tryz.prog 160 #[v0, .int .i64 n] w fun e w' => ∃ v, e = .returned v /\ Own w' w.heap.size v (l ++ two n) /\ Below w.heap.size w w' := by
 have e1 : twoN n = min (cnt n) 65535 := rfl
 have hm : twoN n <= 65535 := by unfold twoN; omega
 have HM := hid e1
 clear e1
 by_cases hc : cnt n <= 65535
 all_goals
  go_enter Tryz.func160, Tryz.ntmps160
  go_wp2_with fail
  refine (count_any n _ h1 h2).mono ?_
  rintro e w' ⟨rfl, rfl⟩
  go_wp2_with fail
  refine (room_any v0 l _ _ hr hv (by omega) (by omega) (by omega)).mono ?_
  rintro e w1 ⟨v1, rfl, ho1, hb1⟩
  have hs1 := hb1.size
  go_wp2_with (at_builtin; refine wp_app rfl _ _ rfl w.heap.size _ l rfl (ho1.alloc _) _ (two n) rfl (rd_new2 _ _ _ _ _ _ ?c1 ?c2) ?d1 ?d2 ?_)
  case c1 => rw [u8_ofNat (by omega)]; exact int_eq (by have := HM.out; omega)
  case c2 => rw [u8_ofNat (by omega)]; exact int_eq (by have := HM.out; omega)
  case d1 => simp [two]; omega
  case d2 => simp; omega
  intro v2 w2 ho2 hg2 _
  have hb2 : Below w.heap.size w w2 := (hb1.alloc hs1 _).grown hg2 (by simp; omega) (fun k hk => (ho1.lt k hk).1)
  have HO := hid ho2
  clear ho2
  go_wp2
  go_ret
  exact ⟨_, rfl, HO.out, hb2⟩
end Go.Proofs.YtijnimjmimeefaaGreat
namespace Go.Proofs.YtijnimjmimeefaaGreat
open Go.RowKit
def Rdr (w : World) (B rb : Nat) (bs : List UInt8) (k e : Nat) : Prop :=
 B <= rb /\ k <= bs.length /\ ∃ sl, w.heap[rb]? = some (.cells #[sl, .int .i64 k, .int .i64 e] 161 (0, 0)) /\ Own w B sl bs /\ ∀ g, sl.ownBlock = some g -> g < rb
theorem Own.made (w : World) (B : Nat) (hB : B <= w.heap.size) : Own (w.alloc (.cells #[] 5)) B (.slice (some ⟨w.heap.size, 0, none⟩) 0 0) [] :=
 World.ownsRow_made w #[] 0 hB (Nat.zero_le _) rfl
theorem clone_any (v0 : Value) (l : List UInt8) (w : World) (hr : Rd w v0 l) (hv : l = [] ∨ ∀ g, v0.ownBlock = some g -> g < w.heap.size) (hl : l.length <= 40000000) :
  Calls Tryz.prog 93 #[v0] w fun e w' => ∃ v, e = .returned v /\ Own w' w.heap.size v l /\ Below w.heap.size w w' := by
 have q22 : ∀ (w : World) (a : Option Addr) (n c n' c' : Nat), (binOp .eql 26 (.slice a n c) (.slice none n' c')).run Tryz.prog w = .ok (.bool a.isNone) w := fun w a n c n' c' => Lib.run_eql_slice_nil w _ _ a n c n' c' Tryz.underlying26
 have hr1 := hr.alloc (.cells #[] 5) hv
 obtain ⟨p, cap, rfl, hx, hn, _⟩ := id hr
 cases p with
 | none =>
  have hc0 := hn rfl
  have hl0 : l = [] := List.eq_nil_of_length_eq_zero (by omega)
  subst hl0
  subst hc0
  go_enter Tryz.func93, Tryz.ntmps93
  go_wp2
  go_ret
  exact ⟨_, rfl, World.ownsRow_nil _ _ _ _, Below.refl _ _⟩
 | some ad =>
  clear hn
  go_enter Tryz.func93, Tryz.ntmps93
  go_wp2_with (at_builtin; refine wp_app rfl _ _ rfl w.heap.size _ [] rfl (Own.made w _ (Nat.le_refl _)) _ l rfl hr1 ?d1 ?d2 ?_)
  case d1 => simp; omega
  case d2 => simp
  intro v2 w2 ho2 hg2 _
  have hb2 : Below w.heap.size w w2 := ((Below.refl _ w).alloc (Nat.le_refl _) _).grown hg2 (by simp) (by intro k hk; simp [Value.ownBlock] at hk; omega)
  have HO := hid ho2
  clear ho2
  go_wp2
  go_ret
  exact ⟨_, rfl, by have := HO.out; simpa using this, hb2⟩
theorem new_any (v0 : Value) (l : List UInt8) (w : World) (hr : Rd w v0 l) (hv : l = [] ∨ ∀ g, v0.ownBlock = some g -> g < w.heap.size) (hl : l.length <= 40000000) :
  Calls Tryz.prog 50 #[v0] w fun e w' => ∃ rb, e = .returned (.pointer (some ⟨rb, 0, none⟩)) /\ Rdr w' w.heap.size rb l 0 0 /\ Below w.heap.size w w' := by
 go_enter Tryz.func50, Tryz.ntmps50
 go_wp2_with fail
 refine (clone_any v0 l _ hr hv hl).mono ?_
 rintro e w1 ⟨v1, rfl, ho1, hb1⟩
 obtain ⟨a1, c1, rfl, _, _⟩ := ho1.len
 go_wp2
 go_ret
 refine ⟨_, rfl, ⟨hb1.size, Nat.zero_le _, _, heap_alloc_new w1 _, ho1.alloc _, ?_⟩, hb1.alloc hb1.size _⟩
 intro g h
 exact (ho1.lt g h).2
end Go.Proofs.YtijnimjmimeefaaGreat
namespace Go.Proofs.YtijnimjmimeefaaGreat
open Go.RowKit
def dec (m : Nat) : List UInt8 -> Nat -> Nat -> Nat × Nat × Nat
 | [], i, _ => (0, 0, if i < 9 then 20 else 21)
 | c :: l, i, v =>
  if i = 9 then (0, 0, 21)
  else if c.toNat < 128 then wholeR (v + c.toNat * 2 ^ (7 * i)) (i + 1) c.toNat m
  else dec m l (i + 1) (v + c.toNat % 128 * 2 ^ (7 * i))
def lookR (bs : List UInt8) (k e m : Nat) : Nat × Nat × Nat := if e = 0 then dec m (bs.drop k) 0 0 else (0, 0, e)
theorem Rdr.cells {w : World} {B rb : Nat} {bs : List UInt8} {k e : Nat} (h : Rdr w B rb bs k e) : ∃ sl, Own w B sl bs /\ sl.ownBlock ≠ some rb /\ rb < w.heap.size /\
  w.cell? ⟨rb, 0, none⟩ = some sl /\ w.cell? ⟨rb, 1, none⟩ = some (.int .i64 k) /\ w.cell? ⟨rb, 2, none⟩ = some (.int .i64 e) /\
  (∀ j, w.frozen? ⟨rb, j, none⟩ = false) := by
 obtain ⟨_, _, sl, hb, ho, hn⟩ := h
 have hlt := (Array.getElem?_eq_some_iff.1 hb).1
 refine ⟨sl, ho, (fun h => Nat.lt_irrefl _ (hn _ h)), hlt, ?_, ?_, ?_, fun j => ?_⟩
 ·simp [World.cell?, hb]
 ·simp [World.cell?, hb]
 ·simp [World.cell?, hb]
 ·simp [World.frozen?, hb]
def Drawn (w w' : World) : Prop := ∃ k, w' = w.drewN k
theorem look_err (B rb : Nat) (bs : List UInt8) (k e m : Nat) (w : World) (h : Rdr w B rb bs k e) (he : e ≠ 0) :
  Calls Tryz.prog 137 #[.pointer (some ⟨rb, 0, none⟩), .int .u64 m] w fun x w' => x = .returned (tri (lookR bs k e m)) /\ Drawn w w' := by
 obtain ⟨sl, ho, hn, hlt, c0, c1, c2, hf⟩ := h.cells
 have heb : ((e : Int) == 0) = false := beq_eq_false_iff_ne.2 (by omega)
 have hen : ((e : Int) != 0) = true := by rw [bne_iff_ne]; omega
 go_enter Tryz.func137, Tryz.ntmps137
 go_wp2
 go_quiet (fail)
 go_wp2
 go_ret3
 exact ⟨tri_eq _ 0 0 e (by unfold lookR; rw [if_neg he]), ⟨_, rfl⟩⟩
theorem look_none (rb : Nat) (bs : List UInt8) (k m cap : Nat) (p : Option Addr) (w : World) (hk : bs.length = k) (hkc : k = cap) (hcm : cap <= 9223372036854775807)
  (c0 : w.cell? ⟨rb, 0, none⟩ = some (.slice p k cap)) (c1 : w.cell? ⟨rb, 1, none⟩ = some (.int .i64 k)) (c2 : w.cell? ⟨rb, 2, none⟩ = some (.int .i64 0)) :
  Calls Tryz.prog 137 #[.pointer (some ⟨rb, 0, none⟩), .int .u64 m] w fun x w' => x = .returned (tri (lookR bs k 0 m)) /\ Drawn w w' := by
 subst hkc
 have hd : lookR bs k 0 m = (0, 0, 20) := by unfold lookR; rw [if_pos rfl, List.drop_of_length_le (by omega)]; rfl
 have HD := hid hd
 clear hd
 clear hk
 go_enter Tryz.func137, Tryz.ntmps137
 go_wp2
 go_quiet (fail)
 go_wp2
 go_loop [8, 35] (fun v i => v = .int .u64 0 /\ i = .int .i64 0) (fun _ _ => 0)
 case atStart => exact ⟨rfl, rfl⟩
 case round =>
  obtain ⟨rfl, rfl⟩ := hrel
  go_wp2
  go_ret3
  exact ⟨tri_eq _ 0 0 20 HD.out, ⟨_, rfl⟩⟩
def Byte (w : World) (g : Nat) (bs : List UInt8) (i n : Nat) : Prop := ∃ c : UInt8, n = c.toNat /\ bs[i]? = some c /\ w.cell? ⟨g, i, none⟩ = some (.int .u8 (n : Int))
theorem Byte.cell {w : World} {g : Nat} {bs : List UInt8} {i n : Nat} (h : Byte w g bs i n) : w.cell? ⟨g, i, none⟩ = some (.int .u8 (n : Int)) := by
 obtain ⟨_, _, _, h⟩ := h
 exact h
theorem byte_of {w : World} {B g cap : Nat} {bs : List UInt8} (ho : Own w B (.slice (some ⟨g, 0, none⟩) bs.length cap) bs) : ∀ i, i < bs.length -> ∃ n : Nat, n < 256 /\ Byte w g bs i n := fun i hi => by
 refine ⟨bs[i].toNat, bs[i].toNat_lt, bs[i], rfl, List.getElem?_eq_getElem hi, ?_⟩
 have := World.ownsRow.cells ho (g := g) rfl i (u8 bs[i]) (by simp [hi])
 by_cases h0 : i = 0
 ·subst h0; exact this
 ·simpa [Addr.add, h0, u8] using this
def DecAt (m : Nat) (bs : List UInt8) (k i u : Nat) : Prop := u < 2 ^ (7 * i) /\ dec m (bs.drop (k + i)) i u = dec m (bs.drop k) 0 0
theorem dec_end (m k v : Nat) (h : k <= 9) (l : List UInt8) (hl : l = [] ∨ k = 9) : dec m l k v = (0, 0, if k < 9 then 20 else 21) := by
 cases l with
 | nil => rfl
 | cons c l =>
  rcases hl with hl | hl
  ·cases hl
  ·subst hl
   simp [dec]
theorem DecAt.next {m : Nat} {bs : List UInt8} {k i u n g : Nat} {w : World} (h : DecAt m bs k i u) (hi : i < 9) (hb : Byte w g bs (k + i) n) :
  U64 (u + n % 128 * 2 ^ (7 * i)) /\ (¬ n < 128 -> DecAt m bs k (i + 1) (u + n % 128 * 2 ^ (7 * i))) := by
 have hp := pow_step (n := n) h.1
 refine ⟨pow_u64 (by omega) hp, fun hn => ⟨hp, ?_⟩⟩
 obtain ⟨c, hc, hx, _⟩ := hb
 obtain ⟨hlt, hx⟩ := List.getElem?_eq_some_iff.1 hx
 have := h.2
 rw [List.drop_eq_getElem_cons hlt, hx, dec, if_neg (by omega), if_neg (by omega), <- hc] at this
 rw [<- this, Nat.add_assoc]
theorem DecAt.stop {m : Nat} {bs : List UInt8} {k i u n g : Nat} {w : World} (h : DecAt m bs k i u) (hi : i < 9) (hb : Byte w g bs (k + i) n) (hn : n < 128) :
  lookR bs k 0 m = wholeR (u + n % 128 * 2 ^ (7 * i)) (i + 1) n m := by
 obtain ⟨c, hc, hx, _⟩ := hb
 obtain ⟨hlt, hx⟩ := List.getElem?_eq_some_iff.1 hx
 have := h.2
 rw [List.drop_eq_getElem_cons hlt, hx, dec, if_neg (by omega), if_pos (by omega), <- hc] at this
 unfold lookR
 rw [if_pos rfl, <- this, Nat.mod_eq_of_lt hn]
theorem DecAt.over {m : Nat} {bs : List UInt8} {k i u : Nat} (h : DecAt m bs k i u) (hi : i <= 9) (_hk : k <= bs.length) (hl : bs.length - k <= i ∨ i = 9) (x : Nat) (hx : (if i < 9 then 20 else 21) = x) :
  lookR bs k 0 m = (0, 0, x) := by
 have h2 := h.2
 rw [dec_end m i u hi _ (by
  rcases hl with hl | hl
  ·exact .inl (List.drop_of_length_le (by omega))
  ·exact .inr hl), hx] at h2
 unfold lookR
 rw [if_pos rfl, <- h2]
theorem look_some (B rb : Nat) (bs : List UInt8) (k m g cap : Nat) (w : World) (hk : k <= bs.length) (hm : U64 m) (hck : ¬ cap = k)
  (ho : Own w B (.slice (some ⟨g, 0, none⟩) bs.length cap) bs) (hcap : bs.length <= cap) (hcm : cap <= 9223372036854775807)
  (c0 : w.cell? ⟨rb, 0, none⟩ = some (.slice (some ⟨g, 0, none⟩) bs.length cap)) (c1 : w.cell? ⟨rb, 1, none⟩ = some (.int .i64 k)) (c2 : w.cell? ⟨rb, 2, none⟩ = some (.int .i64 0)) :
  Calls Tryz.prog 137 #[.pointer (some ⟨rb, 0, none⟩), .int .u64 m] w fun x w' => x = .returned (tri (lookR bs k 0 m)) /\ Drawn w w' := by
 have HC := hid (byte_of ho)
 by_cases h9 : bs.length - k <= 9
 ·go_enter Tryz.func137, Tryz.ntmps137
  go_wp2
  go_quiet (fail)
  go_wp2
  go_loop [8, 35] (fun x j => ∃ (i u : Nat), i <= (bs.length - k) /\ x = .int .u64 u /\ j = .int .i64 i /\ DecAt m bs k i u) (fun _ j => (bs.length - k) - (intOf j).toNat)
  case atStart => exact ⟨0, 0, by omega, rfl, rfl, by unfold DecAt; simp⟩
  case round =>
   obtain ⟨i, u, hi, rfl, rfl, hd⟩ := hrel
   by_cases hlt2 : i < (bs.length - k)
   ·obtain ⟨n, hn, hcell⟩ : ∃ n : Nat, n < 256 /\ Byte w g bs (k + i) n := HC.out (k + i) (by omega)
    have hc1 := hcell.cell
    have hnu := (hd.next (by omega) hcell).1
    by_cases hn1 : n < 128
    ·have hdn := (hd.stop (by omega) hcell hn1)
     go_wp2_with fail
     rw [step_or n i u hn (by omega) hd.1]
     refine (whole_tup _ (i + 1) n m _ hnu (by omega) hn hm).mono ?_
     rintro e w' ⟨a, b, c, HW, rfl, rfl⟩
     go_wp2
     go_ret3
     exact ⟨tri_eq _ a b c (hdn.trans HW.out), ⟨_, rfl⟩⟩
    ·have hdn := (hd.next (by omega) hcell).2 hn1
     go_wp2
     rw [step_or n i u hn (by omega) hd.1]
     refine ⟨⟨i + 1, _, by omega, rfl, by go_num, hdn⟩, ?_⟩
     all_goals ((simp [intOf]) <;> omega)
   ·by_cases h8 : bs.length - k < 9
    ·go_wp2
     go_ret3
     exact ⟨tri_eq _ 0 0 20 (hd.over (by omega) (by omega) (.inl (by omega)) 20 (by rw [if_pos (by omega)])), ⟨_, rfl⟩⟩
    ·go_wp2
     go_ret3
     exact ⟨tri_eq _ 0 0 21 (hd.over (by omega) (by omega) (.inr (by omega)) 21 (by rw [if_neg (by omega)])), ⟨_, rfl⟩⟩
 ·go_enter Tryz.func137, Tryz.ntmps137
  go_wp2
  go_quiet (fail)
  go_wp2
  go_loop [8, 35] (fun x j => ∃ (i u : Nat), i <= 9 /\ x = .int .u64 u /\ j = .int .i64 i /\ DecAt m bs k i u) (fun _ j => 9 - (intOf j).toNat)
  case atStart => exact ⟨0, 0, by omega, rfl, rfl, by unfold DecAt; simp⟩
  case round =>
   obtain ⟨i, u, hi, rfl, rfl, hd⟩ := hrel
   by_cases hlt2 : i < 9
   ·obtain ⟨n, hn, hcell⟩ : ∃ n : Nat, n < 256 /\ Byte w g bs (k + i) n := HC.out (k + i) (by omega)
    have hc1 := hcell.cell
    have hnu := (hd.next (by omega) hcell).1
    by_cases hn1 : n < 128
    ·have hdn := (hd.stop (by omega) hcell hn1)
     go_wp2_with fail
     rw [step_or n i u hn (by omega) hd.1]
     refine (whole_tup _ (i + 1) n m _ hnu (by omega) hn hm).mono ?_
     rintro e w' ⟨a, b, c, HW, rfl, rfl⟩
     go_wp2
     go_ret3
     exact ⟨tri_eq _ a b c (hdn.trans HW.out), ⟨_, rfl⟩⟩
    ·have hdn := (hd.next (by omega) hcell).2 hn1
     go_wp2
     rw [step_or n i u hn (by omega) hd.1]
     refine ⟨⟨i + 1, _, by omega, rfl, by go_num, hdn⟩, ?_⟩
     all_goals ((simp [intOf]) <;> omega)
   ·by_cases h8 : bs.length - k < 9
    ·exact absurd h8 (by omega)
    ·go_wp2
     go_ret3
     exact ⟨tri_eq _ 0 0 21 (hd.over (by omega) (by omega) (.inr (by omega)) 21 (by rw [if_neg (by omega)])), ⟨_, rfl⟩⟩
theorem look_any (B rb : Nat) (bs : List UInt8) (k e m : Nat) (w : World) (h : Rdr w B rb bs k e) (hm : U64 m) :
  Calls Tryz.prog 137 #[.pointer (some ⟨rb, 0, none⟩), .int .u64 m] w fun x w' => x = .returned (tri (lookR bs k e m)) /\ Drawn w w' := by
 by_cases he : e = 0
 ·subst he
  have hk := h.2.1
  obtain ⟨sl, ho, _, _, c0, c1, c2, _⟩ := h.cells
  have ho' := ho
  rcases ho.2 with ⟨rfl, h0⟩ | ⟨g, cap, cur, rfl, _, _, h1, h2, _⟩
  ·rw [h0] at hk
   have hk0 : k = 0 := by omega
   subst hk0
   exact look_none rb bs 0 m 0 none w h0 rfl (by omega) c0 c1 c2
  ·have hcm : cap <= 9223372036854775807 := by unfold maxLen at h2; omega
   by_cases hck : cap = k
   ·have hbk : bs.length = k := by omega
    rw [hbk] at c0
    exact look_none rb bs k m cap _ w hbk hck.symm hcm c0 c1 c2
   ·exact look_some B rb bs k m g cap w hk hm hck ho' h1 hcm c0 c1 c2
 ·exact look_err B rb bs k e m w h he
end Go.Proofs.YtijnimjmimeefaaGreat
namespace Go.Proofs.YtijnimjmimeefaaGreat
open Go.RowKit
theorem grown_set (w : World) (rb j : Nat) (u : Value) : w.grownBy (w.setCell ⟨rb, j, none⟩ u) (some rb) :=
 ⟨rfl, rfl, rfl, by simp, fun k _ hk => heap_setCell_other w ⟨rb, j, none⟩ k u (fun e => hk (by simp [e]))⟩
theorem grown_drewN (w : World) (n : Nat) (r : Option Nat) : w.grownBy (w.drewN n) r := ⟨rfl, rfl, rfl, Nat.le_refl _, fun _ _ _ => rfl⟩
theorem grown_refl (w : World) (r : Option Nat) : w.grownBy w r := ⟨rfl, rfl, rfl, Nat.le_refl _, fun _ _ _ => rfl⟩
theorem grown_trans {a b c : World} {r : Option Nat} (h : a.grownBy b r) (g : b.grownBy c r) : a.grownBy c r :=
 ⟨g.os.trans h.os, g.tape.trans h.tape, g.output.trans h.output, Nat.le_trans h.size g.size, fun k hk hr => (g.block k (Nat.lt_of_lt_of_le hk h.size) hr).trans (h.block k hk hr)⟩
theorem Rdr.drewN {w : World} {B rb : Nat} {bs : List UInt8} {k e : Nat} (h : Rdr w B rb bs k e) (n : Nat) : Rdr (w.drewN n) B rb bs k e := h
theorem Rdr.setE {w : World} {B rb : Nat} {bs : List UInt8} {k e : Nat} (h : Rdr w B rb bs k e) (x : Nat) : Rdr (w.setCell ⟨rb, 2, none⟩ (.int .i64 x)) B rb bs k x := by
 obtain ⟨h1, h2, sl, hb, ho, hn⟩ := h
 exact ⟨h1, h2, sl, by rw [heap_setCell_same w rb 2 _ _ _ hb]; rfl, ho.kept (grown_set w rb 2 _) (.inr (fun h => Nat.lt_irrefl _ (hn _ h))), hn⟩
theorem Rdr.setK {w : World} {B rb : Nat} {bs : List UInt8} {k e : Nat} (h : Rdr w B rb bs k e) (x : Nat) (hx : x <= bs.length) : Rdr (w.setCell ⟨rb, 1, none⟩ (.int .i64 x)) B rb bs x e := by
 obtain ⟨h1, h2, sl, hb, ho, hn⟩ := h
 exact ⟨h1, hx, sl, by rw [heap_setCell_same w rb 1 _ _ _ hb]; rfl, ho.kept (grown_set w rb 1 _) (.inr (fun h => Nat.lt_irrefl _ (hn _ h))), hn⟩
def Gone (w w' : World) (B rb : Nat) (bs : List UInt8) (k e : Nat) : Prop := Rdr w' B rb bs k e /\ w.grownBy w' (some rb)
theorem Gone.drewN {w w' : World} {B rb : Nat} {bs : List UInt8} {k e n : Nat} (h : Gone (w.drewN n) w' B rb bs k e) : Gone w w' B rb bs k e := ⟨h.1, grown_trans (grown_drewN w n _) h.2⟩
theorem take_any (B rb : Nat) (bs : List UInt8) (k e s x : Nat) (w : World) (h : Rdr w B rb bs k e) (hx : x < 100) (hs : x = 0 -> k + s <= bs.length) (hl : bs.length <= 50000000) (hs2 : s <= 50000000) :
  Calls Tryz.prog 138 #[.pointer (some ⟨rb, 0, none⟩), .int .i64 s, .int .i64 x] w fun r w' => r = .returned (.tuple #[]) /\ (if x = 0 then Gone w w' B rb bs (k + s) e else Gone w w' B rb bs k x) := by
 obtain ⟨sl, ho, hn, hlt, c0, c1, c2, hf⟩ := h.cells
 have hk := h.2.1
 have f1 := hf 1
 have f2 := hf 2
 clear hf
 by_cases hx0 : x = 0
 ·subst hx0
  have hks := hs rfl
  clear hs
  have hfin : Gone w (w.setCell ⟨rb, 1, none⟩ (.int .i64 ((k + s : Nat) : Int))) B rb bs (k + s) e := ⟨h.setK _ hks, grown_set w rb 1 _⟩
  have HF := hid hfin
  clear hfin
  go_enter Tryz.func138, Tryz.ntmps138
  go_wp2
  go_end0
  exact ⟨rfl, HF.out⟩
 ·have hb : ((x : Int) == 0) = false := beq_eq_false_iff_ne.2 (by omega)
  have hb2 : ((x : Int) != 0) = true := by rw [bne_iff_ne]; omega
  have hfin : Gone w (w.setCell ⟨rb, 2, none⟩ (.int .i64 x)) B rb bs k x := ⟨h.setE x, grown_set w rb 2 _⟩
  have HF := hid hfin
  clear hfin hs
  go_enter Tryz.func138, Tryz.ntmps138
  go_wp2
  refine bodyPost_ret (results_none rfl _ _ _) rfl ?_
  exact ⟨rfl, HF.out⟩
theorem dec_facts (m : Nat) : ∀ (l : List UInt8) (i v : Nat), i <= 9 -> (dec m l i v).1 <= m /\ ((dec m l i v).2.2 = 0 -> (dec m l i v).2.1 <= i + l.length /\ (dec m l i v).2.1 <= 9) /\
  ((dec m l i v).2.2 ≠ 0 -> (dec m l i v).1 = 0 /\ (dec m l i v).2.1 = 0) /\ (dec m l i v).2.2 < 100
 | [], i, v, hi => by
  unfold dec
  by_cases h : i < 9 <;> simp [h]
 | c :: l, i, v, hi => by
  unfold dec
  by_cases h9 : i = 9
  ·simp [h9]
  ·rw [if_neg h9]
   by_cases hc : c.toNat < 128
   ·rw [if_pos hc]
    unfold wholeR
    split
    ·simp
    ·split
     ·simp
     ·simp; omega
   ·rw [if_neg hc]
    have ih := dec_facts m l (i + 1) (v + c.toNat % 128 * 2 ^ (7 * i)) (by omega)
    refine ⟨ih.1, fun h => ?_, ih.2.2⟩
    have := ih.2.1 h
    simp
    omega
theorem lookR_facts (bs : List UInt8) (k e m a s x : Nat) (hk : k <= bs.length) (he : e < 100) (h : lookR bs k e m = (a, s, x)) :
  a <= m /\ (x = 0 -> k + s <= bs.length /\ s <= 9) /\ (x ≠ 0 -> a = 0 /\ s = 0) /\ x < 100 := by
 unfold lookR at h
 split at h
 ·have f := dec_facts m (bs.drop k) 0 0 (by omega)
  rw [h] at f
  simp only [List.length_drop] at f
  refine ⟨f.1, fun hx => ?_, f.2.2.1, f.2.2.2⟩
  have := f.2.1 hx
  omega
 ·simp only [Prod.mk.injEq] at h
  obtain ⟨rfl, rfl, rfl⟩ := h
  exact ⟨Nat.zero_le _, fun hx => by omega, fun _ => ⟨rfl, rfl⟩, he⟩
def numR (bs : List UInt8) (k e m : Nat) : Nat × Nat × Nat :=
 if (lookR bs k e m).2.2 = 0 then ((lookR bs k e m).1, k + (lookR bs k e m).2.1, 0) else (0, k, (lookR bs k e m).2.2)
theorem look_tup (B rb : Nat) (bs : List UInt8) (k e m : Nat) (w : World) (h : Rdr w B rb bs k e) (hm : U64 m) :
  Calls Tryz.prog 137 #[.pointer (some ⟨rb, 0, none⟩), .int .u64 m] w fun r w' => ∃ a s x n : Nat, Hid (lookR bs k e m = (a, s, x)) /\ r = .returned (.tuple #[.int .u64 a, .int .i64 s, .int .i64 x]) /\ w' = w.drewN n :=
 (look_any B rb bs k e m w h hm).mono fun _ _ ⟨he, n, hw⟩ => ⟨_, _, _, n, hid rfl, he, hw⟩
theorem Gone.of {w w' : World} {B rb : Nat} {bs : List UInt8} {k e s x : Nat} (he : e < 100) (h : if x = 0 then Gone w w' B rb bs (k + s) e else Gone w w' B rb bs k x) (hx : x = 0 -> e = 0) :
  Gone w w' B rb bs (if x = 0 then k + s else k) x := by
 by_cases h0 : x = 0
 ·rw [if_pos h0] at h ⊢
  rw [h0]
  have := hx h0
  subst this
  exact h
 ·rw [if_neg h0] at h ⊢
  exact h
theorem lookR_err {bs : List UInt8} {k e m a s x : Nat} (h : lookR bs k e m = (a, s, x)) : x = 0 -> e = 0 := by
 intro hx
 unfold lookR at h
 by_cases he : e = 0
 ·exact he
 ·rw [if_neg he] at h
  simp only [Prod.mk.injEq] at h
  omega
theorem rnum_any (B rb : Nat) (bs : List UInt8) (k e : Nat) (most : Int) (w : World) (h : Rdr w B rb bs k e) (he : e < 100) (hl : bs.length <= 40000000) (h1 : -9223372036854775808 <= most) (h2 : most <= 9223372036854775807) :
  Calls Tryz.prog 94 #[.pointer (some ⟨rb, 0, none⟩), .int .i64 most] w fun r w' => ∃ v k' e' : Nat, Hid (numR bs k e (cnt most) = (v, k', e')) /\ r = .returned (.int .i64 v) /\ Gone w w' B rb bs k' e' := by
 have hu := toNat_u64 h2
 have hk := h.2.1
 go_enter Tryz.func94, Tryz.ntmps94
 go_wp2_with fail
 refine (count_any most _ h1 h2).mono ?_
 rintro x w' ⟨rfl, rfl⟩
 go_wp2_with fail
 refine (look_tup B rb bs k e _ _ h hu).mono ?_
 rintro r w1 ⟨a, s, x, n, HL, rfl, rfl⟩
 have hf := lookR_facts bs k e _ a s x hk he HL.out
 have ha : a <= 9223372036854775807 := Nat.le_trans hf.1 (by unfold cnt; omega)
 have hs9 : s <= 9 := by have := hf.2; omega
 have hx1 := hf.2.2.2
 have HF := hid hf
 clear hf
 go_wp2_with fail
 refine (take_any B rb bs k e s x _ (h.drewN n) hx1 (fun h0 => (HF.out.2.1 h0).1) (by omega) (by omega)).mono ?_
 rintro r w2 ⟨rfl, hg⟩
 have HG := hid hg
 clear hg
 go_wp2
 go_ret
 refine ⟨a, if x = 0 then k + s else k, x, ?_, ret_int ?_, ((Gone.of he HG.out (lookR_err HL.out))).drewN⟩
 ·show numR _ _ _ _ = _
  unfold numR
  rw [HL.out]
  by_cases h0 : x = 0
  ·simp [h0]
  ·have := (HF.out.2.2.1 h0).1
   simp [h0, this]
 ·rfl
def unfoldN (v : Nat) : Int := if v % 2 = 1 then -((v : Int) / 2) - 1 else (v : Int) / 2
theorem unfold_nat (v : Nat) (w : World) (h : v <= 4294967295) :
  Calls Tryz.prog 205 #[.int .u64 v] w fun e w' => e = .returned (.int .i32 (unfoldN v)) /\ w = w' :=
 (unfold_any v w (by omega) (by omega)).mono fun _ _ ⟨he, hw⟩ => ⟨by
  rw [he]
  refine ret_int ?_
  unfold unfoldN
  by_cases h2 : v % 2 = 1
  ·rw [if_pos h2, if_pos (by omega)]
  ·rw [if_neg h2, if_neg (by omega)], hw⟩
theorem rint_any (B rb : Nat) (bs : List UInt8) (k e : Nat) (w : World) (h : Rdr w B rb bs k e) (he : e < 100) (hl : bs.length <= 40000000) :
  Calls Tryz.prog 183 #[.pointer (some ⟨rb, 0, none⟩)] w fun r w' => ∃ v k' e' : Nat, Hid (numR bs k e 4294967295 = (v, k', e')) /\ r = .returned (.int .i32 (unfoldN v)) /\ Gone w w' B rb bs k' e' := by
 have hk := h.2.1
 go_enter Tryz.func183, Tryz.ntmps183
 go_wp2_with fail
 refine (look_tup B rb bs k e 4294967295 _ h (show 4294967295 < 18446744073709551616 by decide)).mono ?_
 rintro r w1 ⟨a, s, x, n, HL, rfl, rfl⟩
 have hf := lookR_facts bs k e _ a s x hk he HL.out
 have ha : a <= 4294967295 := hf.1
 have hs9 : s <= 9 := by have := hf.2; omega
 have hx1 := hf.2.2.2
 have HF := hid hf
 clear hf
 go_wp2_with fail
 refine (take_any B rb bs k e s x _ (h.drewN n) hx1 (fun h0 => (HF.out.2.1 h0).1) (by omega) (by omega)).mono ?_
 rintro r w2 ⟨rfl, hg⟩
 have HG := hid hg
 clear hg
 go_wp2_with fail
 refine (unfold_nat a _ ha).mono ?_
 rintro r w3 ⟨rfl, rfl⟩
 go_wp2
 go_ret
 refine ⟨a, if x = 0 then k + s else k, x, ?_, rfl, ((Gone.of he HG.out (lookR_err HL.out))).drewN⟩
 show numR _ _ _ _ = _
 unfold numR
 rw [HL.out]
 by_cases h0 : x = 0
 ·simp [h0]
 ·have := (HF.out.2.2.1 h0).1
  simp [h0, this]
theorem rerr_any (B rb : Nat) (bs : List UInt8) (k e : Nat) (w : World) (h : Rdr w B rb bs k e) :
  Calls Tryz.prog 52 #[.pointer (some ⟨rb, 0, none⟩)] w fun r w' => r = .returned (.int .i64 e) /\ w = w' := by
 obtain ⟨sl, ho, hn, hlt, c0, c1, c2, hf⟩ := h.cells
 clear hf
 go_enter Tryz.func52, Tryz.ntmps52
 go_wp2
 go_ret
 exact ⟨rfl, rfl⟩
theorem rdone_any (B rb : Nat) (bs : List UInt8) (k e : Nat) (w : World) (h : Rdr w B rb bs k e) (_hl : bs.length <= 40000000) :
  Calls Tryz.prog 56 #[.pointer (some ⟨rb, 0, none⟩)] w fun r w' => r = .returned (.bool (decide (e = 0 /\ k = bs.length))) /\ Drawn w w' := by
 have hk := h.2.1
 obtain ⟨sl, ho, hn, hlt, c0, c1, c2, hf⟩ := h.cells
 clear hf
 obtain ⟨p, c, rfl, _⟩ := ho.len
 by_cases he0 : e = 0
 ·subst he0
  by_cases hkl : k = bs.length
  ·have hd : decide (0 = 0 /\ k = bs.length) = true := by simp [hkl]
   have hb : ((k : Int) == (bs.length : Int)) = true := beq_iff_eq.2 (by omega)
   have HD := hid hd
   clear hd hkl
   go_enter Tryz.func56, Tryz.ntmps56
   go_wp2
   go_quiet (fail)
   go_wp2
   go_ret
   exact ⟨by rw [HD.out]; rfl, ⟨_, rfl⟩⟩
  ·have hd : decide (0 = 0 /\ k = bs.length) = false := by simp [hkl]
   have hb : ((k : Int) == (bs.length : Int)) = false := beq_eq_false_iff_ne.2 (by omega)
   have HD := hid hd
   clear hd
   go_enter Tryz.func56, Tryz.ntmps56
   go_wp2
   go_quiet (fail)
   go_wp2
   go_ret
   exact ⟨by rw [HD.out]; rfl, ⟨_, rfl⟩⟩
 ·have hd : decide (e = 0 /\ k = bs.length) = false := by simp [he0]
  have hb : ((e : Int) == 0) = false := beq_eq_false_iff_ne.2 (by omega)
  have HD := hid hd
  clear hd
  go_enter Tryz.func56, Tryz.ntmps56
  go_wp2
  go_quiet (fail)
  go_wp2
  go_ret
  exact ⟨by rw [HD.out]; rfl, ⟨_, rfl⟩⟩
end Go.Proofs.YtijnimjmimeefaaGreat
namespace Go.Proofs.YtijnimjmimeefaaGreat
open Go.RowKit
def lookTwoR (bs : List UInt8) (k e m : Nat) : Nat × Nat :=
 if e = 0 then
  match bs.drop k with
  | a :: b :: _ => if m < a.toNat + b.toNat * 256 then (0, 22) else (a.toNat + b.toNat * 256, 0)
  | _ => (0, 20)
 else (0, e)
theorem lookTwoR_short {bs : List UInt8} {k m : Nat} (h : bs.length - k < 2) : lookTwoR bs k 0 m = (0, 20) := by
 have hl : (bs.drop k).length < 2 := by simpa using h
 unfold lookTwoR
 rw [if_pos rfl]
 match hd : bs.drop k with
 | [] => rfl
 | [_] => rfl
 | a :: b :: r => rw [hd] at hl; simp at hl; omega
theorem lookTwoR_long {bs : List UInt8} {k m a b g : Nat} {w : World} (ha : Byte w g bs k a) (hb : Byte w g bs (k + 1) b) :
  lookTwoR bs k 0 m = if m < a + b * 256 then (0, 22) else (a + b * 256, 0) := by
 obtain ⟨ca, rfl, hx, _⟩ := ha
 obtain ⟨cb, rfl, hy, _⟩ := hb
 obtain ⟨hlt, hx⟩ := List.getElem?_eq_some_iff.1 hx
 obtain ⟨hlt2, hy⟩ := List.getElem?_eq_some_iff.1 hy
 unfold lookTwoR
 rw [if_pos rfl, List.drop_eq_getElem_cons hlt, List.drop_eq_getElem_cons hlt2, hx, hy]
theorem ltwo_err (B rb : Nat) (bs : List UInt8) (k e m : Nat) (w : World) (h : Rdr w B rb bs k e) (he : e ≠ 0) :
  Calls Tryz.prog 177 #[.pointer (some ⟨rb, 0, none⟩), .int .u64 m] w fun r w' => ∃ n, r = .returned (.tuple #[.int .u64 0, .int .i64 e]) /\ w' = w.drewN n := by
 have hk := h.2.1
 obtain ⟨sl, ho, hn, hlt, c0, c1, c2, hf⟩ := h.cells
 clear hf
 obtain ⟨p, c, rfl, hc, _⟩ := ho.len
 have hen : ((e : Int) != 0) = true := by rw [bne_iff_ne]; omega
 have heb : ((e : Int) == 0) = false := beq_eq_false_iff_ne.2 (by omega)
 by_cases hck : c = k
 all_goals
  go_enter Tryz.func177, Tryz.ntmps177
  go_wp2
  go_quiet (fail)
  go_wp2
  go_quiet (fail)
  go_wp2
  go_ret2
  exact ⟨_, rfl, World.drewN_drewN _ _ _⟩
theorem ltwo_short (B rb : Nat) (bs : List UInt8) (k m : Nat) (w : World) (h : Rdr w B rb bs k 0) (hs : bs.length - k < 2) :
  Calls Tryz.prog 177 #[.pointer (some ⟨rb, 0, none⟩), .int .u64 m] w fun r w' => ∃ n, r = .returned (.tuple #[.int .u64 0, .int .i64 20]) /\ w' = w.drewN n := by
 have hk := h.2.1
 obtain ⟨sl, ho, hn, hlt, c0, c1, c2, hf⟩ := h.cells
 clear hf
 obtain ⟨p, c, rfl, hc, _⟩ := ho.len
 by_cases hck : c = k
 all_goals
  go_enter Tryz.func177, Tryz.ntmps177
  go_wp2
  go_quiet (fail)
  go_wp2
  go_ret2
  exact ⟨_, rfl, rfl⟩
def twoR (a b m : Nat) : Nat × Nat := if m < a + b * 256 then (0, 22) else (a + b * 256, 0)
def pair (r : Nat × Nat) : Value := .tuple #[.int .u64 r.1, .int .i64 r.2]
theorem pair_eq (r : Nat × Nat) (a b : Nat) (c : Int) (h : r = (a, b)) (hc : c = a) : Ending.returned (.tuple #[.int .u64 c, .int .i64 b]) = Ending.returned (pair r) := by rw [h, hc]; rfl
theorem or256 (a b : Nat) (ha : a < 256) (hb : b < 256) : bits .or .u64 (a : Int) ((b : Int) * 256) = (a : Int) + (b : Int) * 256 := by
 have h := join a b 8 (by omega) (show b * 2 ^ 8 < 18446744073709551616 by omega) (show a < 18446744073709551616 by omega)
 have e : ((b * 2 ^ 8 : Nat) : Int) = (b : Int) * 256 := by omega
 rw [e] at h
 rw [h]
 omega
theorem ltwo_long (rb : Nat) (bs : List UInt8) (k m g c a b : Nat) (w : World) (hs : ¬ bs.length - k < 2) (hc : bs.length <= c) (ha : a < 256) (hb : b < 256)
  (c0 : w.cell? ⟨rb, 0, none⟩ = some (.slice (some ⟨g, 0, none⟩) bs.length c)) (c1 : w.cell? ⟨rb, 1, none⟩ = some (.int .i64 k)) (c2 : w.cell? ⟨rb, 2, none⟩ = some (.int .i64 0))
  (ca : w.cell? ⟨g, k, none⟩ = some (.int .u8 (a : Int))) (cb : w.cell? ⟨g, k + 1, none⟩ = some (.int .u8 (b : Int))) :
  Calls Tryz.prog 177 #[.pointer (some ⟨rb, 0, none⟩), .int .u64 m] w fun r w' => r = .returned (pair (twoR a b m)) /\ Drawn w w' := by
 have hck : ¬ c = k := by omega
 have hor := or256 a b ha hb
 by_cases hm : m < a + b * 256
 ·go_enter Tryz.func177, Tryz.ntmps177
  go_wp2
  go_quiet (fail)
  go_wp2
  go_quiet (fail)
  go_wp2
  go_ret2
  exact ⟨pair_eq _ 0 22 _ (by unfold twoR; rw [if_pos hm]) rfl, ⟨_, rfl⟩⟩
 ·go_enter Tryz.func177, Tryz.ntmps177
  go_wp2
  go_quiet (fail)
  go_wp2
  go_quiet (fail)
  go_wp2
  go_ret2
  exact ⟨pair_eq _ (a + b * 256) 0 _ (by unfold twoR; rw [if_neg hm]) (by omega), ⟨_, rfl⟩⟩
theorem ltwo_any (B rb : Nat) (bs : List UInt8) (k e m : Nat) (w : World) (h : Rdr w B rb bs k e) :
  Calls Tryz.prog 177 #[.pointer (some ⟨rb, 0, none⟩), .int .u64 m] w fun r w' => ∃ a x n : Nat, Hid (lookTwoR bs k e m = (a, x)) /\ r = .returned (.tuple #[.int .u64 a, .int .i64 x]) /\ w' = w.drewN n := by
 by_cases he : e = 0
 ·subst he
  by_cases hs : bs.length - k < 2
  ·exact (ltwo_short B rb bs k m w h hs).mono fun _ _ ⟨n, h1, h2⟩ => ⟨0, 20, n, hid (lookTwoR_short hs), h1, h2⟩
  ·obtain ⟨sl, ho, _, _, c0, c1, c2, _⟩ := h.cells
   have ho' := ho
   rcases ho.2 with ⟨rfl, h0⟩ | ⟨g, cap, cur, rfl, _, _, h1, _, _⟩
   ·omega
   ·obtain ⟨a, ha, hba⟩ := byte_of ho' k (by omega)
    obtain ⟨b, hb, hbb⟩ := byte_of ho' (k + 1) (by omega)
    exact (ltwo_long rb bs k m g cap a b w hs h1 ha hb c0 c1 c2 hba.cell hbb.cell).mono fun _ _ ⟨h2, n, h3⟩ =>
     ⟨(twoR a b m).1, (twoR a b m).2, n, hid (lookTwoR_long hba hbb), h2, h3⟩
 ·exact (ltwo_err B rb bs k e m w h he).mono fun _ _ ⟨n, h1, h2⟩ => ⟨0, e, n, hid (by unfold lookTwoR; rw [if_neg he]), h1, h2⟩
theorem lookTwoR_facts (bs : List UInt8) (k e m a x : Nat) (he : e < 100) (h : lookTwoR bs k e m = (a, x)) :
  a <= m /\ (x = 0 -> k + 2 <= bs.length /\ e = 0) /\ (x ≠ 0 -> a = 0) /\ x < 100 := by
 unfold lookTwoR at h
 by_cases he0 : e = 0
 ·rw [if_pos he0] at h
  match hd : bs.drop k with
  | [] => rw [hd] at h; simp at h; omega
  | [_] => rw [hd] at h; simp at h; omega
  | c :: d :: r =>
   have hl : (bs.drop k).length = r.length + 2 := by rw [hd]; simp
   rw [List.length_drop] at hl
   rw [hd] at h
   simp only at h
   split at h
   ·simp only [Prod.mk.injEq] at h
    omega
   ·simp only [Prod.mk.injEq] at h
    omega
 ·rw [if_neg he0] at h
  simp only [Prod.mk.injEq] at h
  omega
def rtwoR (bs : List UInt8) (k e m : Nat) : Nat × Nat × Nat :=
 if (lookTwoR bs k e m).2 = 0 then ((lookTwoR bs k e m).1, k + 2, 0) else (0, k, (lookTwoR bs k e m).2)
theorem rtwo_any (B rb : Nat) (bs : List UInt8) (k e : Nat) (most : Int) (w : World) (h : Rdr w B rb bs k e) (he : e < 100) (hl : bs.length <= 40000000) (h1 : -9223372036854775808 <= most) (h2 : most <= 9223372036854775807) :
  Calls Tryz.prog 140 #[.pointer (some ⟨rb, 0, none⟩), .int .i64 most] w fun r w' => ∃ v k' e' : Nat, Hid (rtwoR bs k e (cnt most) = (v, k', e')) /\ r = .returned (.int .i64 v) /\ Gone w w' B rb bs k' e' := by
 have hk := h.2.1
 go_enter Tryz.func140, Tryz.ntmps140
 go_wp2_with fail
 refine (count_any most _ h1 h2).mono ?_
 rintro x w' ⟨rfl, rfl⟩
 go_wp2_with fail
 refine (ltwo_any B rb bs k e _ _ h).mono ?_
 rintro r w1 ⟨a, x, n, HL, rfl, rfl⟩
 have hf := lookTwoR_facts bs k e _ a x he HL.out
 have ha : a <= 9223372036854775807 := Nat.le_trans hf.1 (by unfold cnt; omega)
 have hx1 := hf.2.2.2
 have HF := hid hf
 clear hf
 go_wp2_with fail
 refine (take_any B rb bs k e 2 x _ (h.drewN n) hx1 (fun h0 => (HF.out.2.1 h0).1) (by omega) (by omega)).mono ?_
 rintro r w2 ⟨rfl, hg⟩
 have HG := hid hg
 clear hg
 go_wp2
 go_ret
 refine ⟨a, if x = 0 then k + 2 else k, x, ?_, rfl, ((Gone.of he HG.out (fun h0 => (HF.out.2.1 h0).2))).drewN⟩
 show rtwoR _ _ _ _ = _
 unfold rtwoR
 rw [HL.out]
 by_cases h0 : x = 0
 ·simp [h0]
 ·have := HF.out.2.2.1 h0
  simp [h0, this]
end Go.Proofs.YtijnimjmimeefaaGreat
namespace Go.Proofs.YtijnimjmimeefaaGreat
open Go.RowKit
def tx (l : List UInt8) : ByteArray := ⟨l.toArray⟩
theorem tx_size (l : List UInt8) : (tx l).size = l.length := by
 show l.toArray.size = l.length
 simp
theorem tx_sb (s : ByteArray) : tx (sb s) = s := rfl
theorem conv_rd {w : World} {v : Value} {l : List UInt8} (h : Rd w v l) : (convert 26 9 v).run Tryz.prog w = .ok (.string (tx l)) w := by
 obtain ⟨p, cap, rfl, hle, hn, hc⟩ := h
 cases p with
 | none =>
  have h0 := hn rfl
  have hl0 : l = [] := List.eq_nil_of_length_eq_zero (by omega)
  subst hl0
  exact run_convert_bytes_nil w 26 5 Tryz.underlying26 Tryz.underlying5 _ _ 9 Tryz.underlying9
 | some a =>
  exact run_convert_bytes_back w 26 9 5 a cap l Tryz.underlying26 Tryz.underlying5 Tryz.underlying9 (fun j hj => hc a rfl j l[j] (List.getElem?_eq_getElem hj))
theorem conv_zero (w : World) (a : Option Addr) (c : Nat) : (convert 26 9 (.slice a 0 c)).run Tryz.prog w = .ok (.string (tx [])) w := by
 cases a with
 | none => exact run_convert_bytes_nil w 26 5 Tryz.underlying26 Tryz.underlying5 _ _ 9 Tryz.underlying9
 | some a => exact run_convert_bytes_back w 26 9 5 a c [] Tryz.underlying26 Tryz.underlying5 Tryz.underlying9 (fun j hj => by simp at hj)
theorem conv_cut {w : World} {B : Nat} {p : Option Addr} {c : Nat} {bs : List UInt8} (ho : Own w B (.slice p bs.length c) bs) (j a : Nat) (hj : j <= bs.length) (hc : ¬ c = j) (ha : a <= bs.length - j) (C : Nat) :
  (convert 26 9 (.slice (Option.map (fun x => x.add j) p) a C)).run Tryz.prog w = .ok (.string (tx ((bs.drop j).take a))) w := by
 have hlen : ((bs.drop j).take a).length = a := by rw [List.length_take, List.length_drop]; omega
 rcases ho.2 with ⟨h, h0⟩ | ⟨g, cap, cur, h, _, _, h1, _, _⟩
 ·simp only [Value.slice.injEq] at h
  omega
 ·simp only [Value.slice.injEq] at h
  obtain ⟨rfl, _, rfl⟩ := h
  have hb := run_convert_bytes_back (P := Tryz.prog) w 26 9 5 ((⟨g, 0, none⟩ : Addr).add j) C ((bs.drop j).take a) Tryz.underlying26 Tryz.underlying5 Tryz.underlying9 (fun i hi => by
   have hib : j + i < bs.length := by rw [hlen] at hi; omega
   have hcell := World.ownsRow.cells ho (g := g) rfl (j + i) (u8 bs[j + i]) (by simp [hib])
   have e1 : ((⟨g, 0, none⟩ : Addr).add j).add i = (⟨g, 0, none⟩ : Addr).add (j + i) := by
    unfold Addr.add
    by_cases hj0 : j = 0
    ·subst hj0; simp
    ·by_cases hi0 : i = 0
     ·subst hi0; simp
     ·simp [hj0, hi0]
   rw [e1, hcell]
   simp [u8])
  rw [hlen] at hb
  exact hb
def textR (bs : List UInt8) (k e m : Nat) : List UInt8 × Nat × Nat :=
 let r := lookR bs k e m
 if r.2.2 = 0 then
  if bs.length - (k + r.2.1) < r.1 then ([], k, 20) else ((bs.drop (k + r.2.1)).take r.1, k + r.2.1 + r.1, 0)
 else ([], k, r.2.2)
theorem ret_str {a b : ByteArray} (h : a = b) : Ending.returned (.string a) = .returned (.string b) := by rw [h]
theorem rtext_any (B rb : Nat) (bs : List UInt8) (k e : Nat) (most : Int) (w : World) (h : Rdr w B rb bs k e) (he : e < 100) (hl : bs.length <= 40000000) (h1 : -9223372036854775808 <= most) (h2 : most <= 9223372036854775807) :
  Calls Tryz.prog 96 #[.pointer (some ⟨rb, 0, none⟩), .int .i64 most] w fun r w' => ∃ (l : List UInt8) (k' e' : Nat), Hid (textR bs k e (cnt most) = (l, k', e')) /\ r = .returned (.string (tx l)) /\ Gone w w' B rb bs k' e' := by
 have hu := toNat_u64 h2
 have hk := h.2.1
 obtain ⟨sl, ho, hn, hlt, c0, c1, c2, hf⟩ := h.cells
 clear hf
 obtain ⟨p, c, rfl, hc, _⟩ := ho.len
 have hz : ∀ (w : World) (a : Option Addr) (c : Nat), (convert 26 9 (.slice a 0 c)).run Tryz.prog w = .ok (.string (tx [])) w := conv_zero
 have hzs : (tx []).size = 0 := tx_size []
 go_enter Tryz.func96, Tryz.ntmps96
 go_wp2_with fail
 refine (count_any most _ h1 h2).mono ?_
 rintro x w' ⟨rfl, rfl⟩
 go_wp2_with fail
 refine (look_tup B rb bs k e _ _ h hu).mono ?_
 rintro r w1 ⟨a, s, x, n, HL, rfl, rfl⟩
 have hf := lookR_facts bs k e _ a s x hk he HL.out
 have ha : a <= 9223372036854775807 := Nat.le_trans hf.1 (by unfold cnt; omega)
 have hs9 : s <= 9 := by have := hf.2; omega
 have hx1 := hf.2.2.2
 have hks : k + s <= bs.length := by have := hf.2; omega
 by_cases hx0 : x = 0
 ·subst hx0
  have HF := hid hf
  clear hf
  by_cases hshort : bs.length - (k + s) < a
  ·have HS := hid hshort
   have hfin : textR bs k e (cnt most) = ([], k, 20) := by unfold textR; rw [HL.out]; simp [hshort]
   have HT := hid hfin
   clear hfin
   by_cases hck : c = k + s
   all_goals
    go_wp2
    go_quiet (fail)
    go_wp2_with fail
    refine (take_any B rb bs k e s 20 _ (h.drewN _) (by omega) (fun h0 => by omega) (by omega) (by omega)).mono ?_
    rintro r w2 ⟨rfl, hg⟩
    have HG := hid hg
    clear hg
    go_wp2
    go_ret
    exact ⟨[], k, 20, HT, rfl, (show Gone (w.drewN _) w2 B rb bs k 20 from HG.out).drewN⟩
  ·have HS := hid hshort
   have he0 : e = 0 := lookR_err HL.out rfl
   have hfin : textR bs k e (cnt most) = ((bs.drop (k + s)).take a, k + s + a, 0) := by unfold textR; rw [HL.out]; simp [hshort]
   have HT := hid hfin
   clear hfin
   subst he0
   by_cases hck : c = k + s
   ·have ha0 : a = 0 := by omega
    subst ha0
    go_wp2
    go_quiet (fail)
    go_wp2_with fail
    refine (take_any B rb bs k 0 s 0 _ (h.drewN _) (by omega) (fun _ => hks) (by omega) (by omega)).mono ?_
    rintro r w2 ⟨rfl, hg⟩
    have HG := hid hg
    clear hg
    go_wp2
    go_ret
    exact ⟨[], k + s, 0, hid (by have := HT.out; simpa using this), rfl, (show Gone (w.drewN _) w2 B rb bs (k + s) 0 from HG.out).drewN⟩
   ·have hcv : ∀ (q C : Nat), (convert 26 9 (.slice (Option.map ((fun x => x) ∘ fun x => x.add (k + s)) p) a C)).run Tryz.prog (w.drewN q) = .ok (.string (tx ((bs.drop (k + s)).take a))) (w.drewN q) :=
     fun q C => conv_cut (w := w.drewN q) ho (k + s) a hks hck (by omega) C
    have hts : (tx ((bs.drop (k + s)).take a)).size = a := by rw [tx_size, List.length_take, List.length_drop]; omega
    go_wp2
    go_quiet (fail)
    go_wp2_with fail
    have e2 : ((s : Int) + (a : Int)) = ((s + a : Nat) : Int) := by omega
    rw [e2]
    refine (take_any B rb bs k 0 (s + a) 0 _ (h.drewN _) (by omega) (fun _ => by omega) (by omega) (by omega)).mono ?_
    rintro r w2 ⟨rfl, hg⟩
    have HG := hid hg
    clear hg hcv hts e2
    go_wp2
    go_ret
    exact ⟨_, k + s + a, 0, HT, rfl, by rw [Nat.add_assoc]; exact (show Gone (w.drewN _) w2 B rb bs (k + (s + a)) 0 from HG.out).drewN⟩
 ·obtain ⟨rfl, rfl⟩ := hf.2.2.1 hx0
  have hxb : ((x : Int) == 0) = false := beq_eq_false_iff_ne.2 (by omega)
  have hfin : textR bs k e (cnt most) = ([], k, x) := by unfold textR; rw [HL.out]; simp [hx0]
  have HT := hid hfin
  clear hfin hf
  by_cases hck : c = k
  all_goals
   go_wp2
   go_quiet (fail)
   go_wp2_with fail
   refine (take_any B rb bs k e 0 x _ (h.drewN _) hx1 (fun h0 => absurd h0 hx0) (by omega) (by omega)).mono ?_
   rintro r w2 ⟨rfl, hg⟩
   rw [if_neg hx0] at hg
   have HG := hid hg.drewN
   clear hg
   go_wp2
   go_ret
   exact ⟨[], k, x, HT, rfl, HG.out⟩
end Go.Proofs.YtijnimjmimeefaaGreat
namespace Go.Proofs.YtijnimjmimeefaaGreat
open Go.RowKit
theorem rd_nil (w : World) : Rd w (.slice none 0 0) [] := ⟨none, 0, rfl, Nat.le_refl _, fun _ => rfl, fun a ha => by cases ha⟩
theorem rdI_new1 (w : World) (z : Int) (t : TypeId) (h1 : -9223372036854775808 <= z) (h2 : z <= 9223372036854775807) : RdI (w.alloc (.cells #[.int .i64 z] t)) (.slice (some ⟨w.heap.size, 0, none⟩) 1 1) [z] := by
 refine ⟨_, 1, rfl, fun a ha _ => (by cases ha; rfl), (fun h => by cases h), fun i x hx => ?_, fun a ha i x hx => ?_⟩
 ·match i, hx with
  | 0, hx => simp at hx; subst hx; exact ⟨h1, h2⟩
 ·cases ha
  match i, hx with
  | 0, hx => simp at hx; subst hx; simp
def kb : List UInt8 := [172, 2, 3, 2, 97, 98, 1, 2, 128]
theorem rnum_at {B rb : Nat} {bs : List UInt8} {k e v k' e' : Nat} {most : Int} {w : World} (hr : numR bs k e (cnt most) = (v, k', e')) (h : Rdr w B rb bs k e) (he : e < 100) (hl : bs.length <= 40000000) (h1 : -9223372036854775808 <= most) (h2 : most <= 9223372036854775807) :
  Calls Tryz.prog 94 #[.pointer (some ⟨rb, 0, none⟩), .int .i64 most] w fun r w' => r = .returned (.int .i64 v) /\ Gone w w' B rb bs k' e' := by
 refine (rnum_any B rb bs k e most w h he hl h1 h2).mono fun r w' ⟨a, b, c, H, hx, hg⟩ => ?_
 have := H.out
 rw [hr] at this
 simp only [Prod.mk.injEq] at this
 obtain ⟨rfl, rfl, rfl⟩ := this
 exact ⟨hx, hg⟩
theorem rint_at {B rb : Nat} {bs : List UInt8} {k e v k' e' : Nat} {w : World} (hr : numR bs k e 4294967295 = (v, k', e')) (h : Rdr w B rb bs k e) (he : e < 100) (hl : bs.length <= 40000000) :
  Calls Tryz.prog 183 #[.pointer (some ⟨rb, 0, none⟩)] w fun r w' => r = .returned (.int .i32 (unfoldN v)) /\ Gone w w' B rb bs k' e' := by
 refine (rint_any B rb bs k e w h he hl).mono fun r w' ⟨a, b, c, H, hx, hg⟩ => ?_
 have := H.out
 rw [hr] at this
 simp only [Prod.mk.injEq] at this
 obtain ⟨rfl, rfl, rfl⟩ := this
 exact ⟨hx, hg⟩
theorem rtext_at {B rb : Nat} {bs v : List UInt8} {k e k' e' : Nat} {most : Int} {w : World} (hr : textR bs k e (cnt most) = (v, k', e')) (h : Rdr w B rb bs k e) (he : e < 100) (hl : bs.length <= 40000000) (h1 : -9223372036854775808 <= most) (h2 : most <= 9223372036854775807) :
  Calls Tryz.prog 96 #[.pointer (some ⟨rb, 0, none⟩), .int .i64 most] w fun r w' => r = .returned (.string (tx v)) /\ Gone w w' B rb bs k' e' := by
 refine (rtext_any B rb bs k e most w h he hl h1 h2).mono fun r w' ⟨a, b, c, H, hx, hg⟩ => ?_
 have := H.out
 rw [hr] at this
 simp only [Prod.mk.injEq] at this
 obtain ⟨rfl, rfl, rfl⟩ := this
 exact ⟨hx, hg⟩
theorem rtwo_at {B rb : Nat} {bs : List UInt8} {k e v k' e' : Nat} {most : Int} {w : World} (hr : rtwoR bs k e (cnt most) = (v, k', e')) (h : Rdr w B rb bs k e) (he : e < 100) (hl : bs.length <= 40000000) (h1 : -9223372036854775808 <= most) (h2 : most <= 9223372036854775807) :
  Calls Tryz.prog 140 #[.pointer (some ⟨rb, 0, none⟩), .int .i64 most] w fun r w' => r = .returned (.int .i64 v) /\ Gone w w' B rb bs k' e' := by
 refine (rtwo_any B rb bs k e most w h he hl h1 h2).mono fun r w' ⟨a, b, c, H, hx, hg⟩ => ?_
 have := H.out
 rw [hr] at this
 simp only [Prod.mk.injEq] at this
 obtain ⟨rfl, rfl, rfl⟩ := this
 exact ⟨hx, hg⟩
end Go.Proofs.YtijnimjmimeefaaGreat
namespace Go.Proofs.YtijnimjmimeefaaGreat
open Go.RowKit
theorem goOn_toNat (u : Nat) : (goOn u).toNat = u % 128 + 128 := by
 unfold goOn
 rw [UInt8.toNat_ofNat']
 omega
theorem small_toNat {u : Nat} (h : u < 128) : (UInt8.ofNat u).toNat = u := by
 rw [UInt8.toNat_ofNat']
 omega
theorem pow_next (u i : Nat) : u % 128 * 2 ^ (7 * i) + u / 128 * 2 ^ (7 * (i + 1)) = u * 2 ^ (7 * i) := by
 have e : 2 ^ (7 * (i + 1)) = 128 * 2 ^ (7 * i) := by rw [show 7 * (i + 1) = 7 + 7 * i from by omega, Nat.pow_add]
 rw [e, <- Nat.mul_assoc, <- Nat.add_mul]
 congr 1
 omega
theorem dec_nb (m : Nat) (l : List UInt8) : ∀ (f u i v : Nat), u < f -> (i = 0 ∨ 0 < u) -> i + (nb u).length <= 9 ->
  dec m (nb u ++ l) i v = if m < v + u * 2 ^ (7 * i) then (0, 0, 22) else (v + u * 2 ^ (7 * i), i + (nb u).length, 0)
 | 0, _, _, _, h, _, _ => by omega
 | f + 1, u, i, v, hf, h0, hl => by
  by_cases hu : u < 128
  ·rw [nb_small hu] at hl ⊢
   simp only [List.length_singleton] at hl
   rw [List.cons_append, List.nil_append, dec, if_neg (by omega), small_toNat hu, if_pos hu]
   unfold wholeR
   rw [if_neg (by omega)]
   rfl
  ·rw [nb_big hu] at hl ⊢
   rw [List.length_cons] at hl
   have hg : (UInt8.ofNat (u % 128 + 128)).toNat = u % 128 + 128 := goOn_toNat u
   rw [List.cons_append, dec, if_neg (by have := nb_pos (u / 128); omega), hg, if_neg (by omega)]
   rw [dec_nb m l f (u / 128) (i + 1) _ (by omega) (by omega) (by omega)]
   rw [show (u % 128 + 128) % 128 = u % 128 from by omega, Nat.add_assoc, pow_next, List.length_cons, show i + 1 + (nb (u / 128)).length = i + ((nb (u / 128)).length + 1) from by omega]
theorem nb_len9 {u : Nat} (h : u <= 9223372036854775807) : (nb u).length <= 9 :=
 nb_len 8 u (Nat.lt_of_le_of_lt h (by decide))
theorem cnt_nat (M : Nat) : cnt (M : Int) = M := by unfold cnt; omega
theorem cnt_pred (M : Nat) : cnt ((M : Int) - 1) = M - 1 := by unfold cnt; omega
theorem nums_one (z : Int) : nums [z] = nb (cnt z) := by
 show nb (cnt z) ++ [] = _
 rw [List.append_nil]
theorem Rdr.lt {w : World} {B rb : Nat} {bs : List UInt8} {k e : Nat} (h : Rdr w B rb bs k e) : rb < w.heap.size := by
 obtain ⟨_, _, sl, hx, _⟩ := h
 exact (Array.getElem?_eq_some_iff.1 hx).1
end Go.Proofs.YtijnimjmimeefaaGreat
namespace Go.Proofs.YtijnimjmimeefaaGreat
open Go.RowKit
def IsRow (k : IntKind) (w : World) (a : Option Addr) (len cap : Nat) (zs : List Int) : Prop :=
 (a = none /\ len = 0 /\ cap = 0 /\ zs = []) ∨
 ∃ x, a = some x /\ len <= cap /\ cap <= maxLen /\ zs.length = cap /\ (∀ i, i < zs.length -> w.cell? (x.add i) = some (.int k (zs.getD i 0))) /\ ∀ n ∈ zs, (Lit.int k n).wf = true
theorem add_add (x : Addr) (i : Nat) (h : x.spot = none) : x.add i = ⟨x.block, x.off + i, none⟩ := by
 obtain ⟨b, o, s⟩ := x
 simp only at h
 subst h
 unfold Addr.add
 split <;> simp_all
theorem wf_u8 {n : Int} (h : (Lit.int .u8 n).wf = true) : 0 <= n /\ n <= 255 := bounds_u8 h
theorem rd_of_row {w : World} {a : Option Addr} {len cap : Nat} {zs : List Int} (h : IsRow .u8 w a len cap zs) : ∃ l : List UInt8, l.length = len /\ Rd w (.slice a len cap) l := by
 rcases h with ⟨rfl, rfl, rfl, rfl⟩ | ⟨x, rfl, hl, hm, hz, hc, hw⟩
 ·exact ⟨[], rfl, none, 0, rfl, Nat.le_refl _, fun _ => rfl, fun a ha => by cases ha⟩
 ·have hlen : ((zs.take len).map fun z => UInt8.ofNat z.toNat).length = len := by rw [List.length_map, List.length_take]; omega
  refine ⟨(zs.take len).map fun z => UInt8.ofNat z.toNat, hlen, some x, cap, by rw [hlen], by rw [hlen]; exact hl, (fun h => by cases h), fun a ha i y hy => ?_⟩
  cases ha
  rw [List.getElem?_map, Option.map_eq_some_iff] at hy
  obtain ⟨z, hz1, rfl⟩ := hy
  have hi : i < len := by
   have := (List.getElem?_eq_some_iff.1 hz1).1
   rw [List.length_take] at this
   omega
  rw [List.getElem?_take_of_lt hi] at hz1
  have hb := wf_u8 (hw z (List.mem_of_getElem? hz1))
  rw [hc i (by omega), List.getD_eq_getElem?_getD, hz1]
  rw [u8_ofNat (by omega)]
  show some (Value.int .u8 z) = _
  rw [Int.toNat_of_nonneg hb.1]
theorem row_lt {k : IntKind} {w : World} {a : Option Addr} {len cap : Nat} {zs : List Int} (h : IsRow k w a len cap zs) (hc : 0 < cap) : ∀ g, (Value.slice a len cap).ownBlock = some g -> g < w.heap.size := by
 rcases h with ⟨rfl, rfl, rfl, rfl⟩ | ⟨x, rfl, hl, hm, hz, hcell, hw⟩
 ·omega
 ·intro g hg
  simp only [Value.ownBlock, Option.some.injEq] at hg
  subst hg
  have := World.block_lt_of_cell? _ _ (hcell 0 (by omega))
  rwa [add_block] at this
theorem live_of_row {k : IntKind} {w : World} {a : Option Addr} {len cap : Nat} {zs : List Int} {α : Type} {l : List α} (h : IsRow k w a len cap zs) (hl : l.length = len) : l = [] ∨ ∀ g, (Value.slice a len cap).ownBlock = some g -> g < w.heap.size := by
 by_cases hc : 0 < cap
 ·exact .inr (row_lt h hc)
 ·have hcl : len <= cap := by
   rcases h with ⟨rfl, rfl, rfl, rfl⟩ | ⟨x, rfl, h1, _⟩
   ·omega
   ·exact h1
  exact .inl (List.eq_nil_of_length_eq_zero (by omega))
end Go.Proofs.YtijnimjmimeefaaGreat
namespace Go.Proofs
open Go.Shelf
def Tryz.lays169_ren : Go.Shelf.Ren := ⟨fun | 169 => 199 | n => n, fun | 70 => 244 | 9 => 9 | 0 => 0 | 72 => 246 | 37 => 26 | 127 => 254 | 3 => 3 | 5 => 5 | n => n, fun | n => n⟩
theorem Tryz.lays169 : Go.Proofs.Lays.n169 Tryz.prog Tryz.lays169_ren := {
 mixed := by kernel_rfl
 f169 := Tryz.func199.trans (congrArg some (by kernel_rfl))
 t0 := Tryz.underlying0
 a0 := Tryz.isAgg0
 z0 := Tryz.sizeOf0
 v0 := Tryz.zeroValue0
 t3 := Tryz.underlying3
 a3 := Tryz.isAgg3
 z3 := Tryz.sizeOf3
 v3 := Tryz.zeroValue3
 t9 := Tryz.underlying9
 a9 := Tryz.isAgg9
 z9 := Tryz.sizeOf9
 v9 := Tryz.zeroValue9
 t37 := Tryz.underlying26
 a37 := Tryz.isAgg26
 z37 := Tryz.sizeOf26
 v37 := Tryz.zeroValue26
 t70 := Tryz.underlying244
 a70 := Tryz.isAgg244
 z70 := Tryz.sizeOf244
 v70 := Tryz.zeroValue244
 t72 := Tryz.underlying246
 a72 := Tryz.isAgg246
 z72 := Tryz.sizeOf246
 v72 := Tryz.zeroValue246
 t127 := Tryz.underlying254
 a127 := Tryz.isAgg254
 z127 := Tryz.sizeOf254
 v127 := Tryz.zeroValue254 }
theorem Tryz.Builder_Extra_169 : Builder.Extra Tryz.prog Tryz.lays169_ren := {
 sizeBuilder := by kernel_rfl
 liesBuilder := by kernel_rfl
 t5 := Tryz.underlying5
 a5 := Tryz.isAgg5
 z5 := Tryz.sizeOf5
 v5 := Tryz.zeroValue5
 infoByte := by kernel_rfl
 cellsByte := by kernel_rfl
 sizeByte := by kernel_rfl
 neB5 := by decide }
open Go.RowKit in
theorem Tryz.Builder_String_any (B b : Nat) (l : List UInt8) (w : World) (h : Lib.IsBuilder 246 5 B b (Lib.byteCells l) w) (hBw : B <= w.heap.size) :
  Calls Tryz.prog 199 #[.pointer (some ⟨b, 0, none⟩)] w fun e w' => e = .returned (.string ⟨l.toArray⟩) /\ Below B w w' := Any.Builder_String_any Tryz.lays169 Tryz.Builder_Extra_169 B b l w h hBw
def Tryz.lays103_ren : Go.Shelf.Ren := ⟨fun | 103 => 179 | 210 => 204 | 206 => 213 | n => n, fun | 9 => 9 | 4 => 4 | 24 => 200 | 3 => 3 | n => n, fun | n => n⟩
theorem Tryz.lays103 : Go.Proofs.Lays.n103 Tryz.prog Tryz.lays103_ren := {
 mixed := by kernel_rfl
 f103 := Tryz.func179.trans (congrArg some (by kernel_rfl))
 f206 := Tryz.func213.trans (congrArg some (by kernel_rfl))
 f210 := Tryz.func204.trans (congrArg some (by kernel_rfl))
 t3 := Tryz.underlying3
 a3 := Tryz.isAgg3
 z3 := Tryz.sizeOf3
 v3 := Tryz.zeroValue3
 t4 := Tryz.underlying4
 a4 := Tryz.isAgg4
 z4 := Tryz.sizeOf4
 v4 := Tryz.zeroValue4
 t9 := Tryz.underlying9
 a9 := Tryz.isAgg9
 z9 := Tryz.sizeOf9
 v9 := Tryz.zeroValue9
 t24 := Tryz.underlying200
 a24 := Tryz.isAgg200
 z24 := Tryz.sizeOf200
 v24 := Tryz.zeroValue200 }
open Go.RowKit in
theorem Tryz.strings_CutPrefix (s p : ByteArray) (w : World) :
  Calls Tryz.prog 179 #[.string s, .string p] w fun e w' => e = .returned (.tuple #[.string ⟨(Lib.trimPrefix s.data.toList p.data.toList).toArray⟩, .bool (Lib.hasPrefix s.data.toList p.data.toList)]) /\ w' = w := Any.strings_CutPrefix Tryz.lays103 s p w
def Tryz.laysM316_ren : Go.Shelf.Ren := ⟨fun | 316 => 209 | n => n, fun | 9 => 9 | 3 => 3 | 4 => 4 | 37 => 26 | 0 => 0 | 127 => 254 | 5 => 5 | n => n, fun | n => n⟩
theorem Tryz.laysM316 : Go.Proofs.LaysM.n316 Tryz.prog Tryz.laysM316_ren := {
 mixed := by kernel_rfl
 f316 := Tryz.func209.trans (congrArg some (by kernel_rfl))
 t0 := Tryz.underlying0
 a0 := Tryz.isAgg0
 z0 := Tryz.sizeOf0
 v0 := Tryz.zeroValue0
 t3 := Tryz.underlying3
 a3 := Tryz.isAgg3
 z3 := Tryz.sizeOf3
 v3 := Tryz.zeroValue3
 t4 := Tryz.underlying4
 a4 := Tryz.isAgg4
 z4 := Tryz.sizeOf4
 v4 := Tryz.zeroValue4
 t9 := Tryz.underlying9
 a9 := Tryz.isAgg9
 z9 := Tryz.sizeOf9
 v9 := Tryz.zeroValue9
 t37 := Tryz.underlying26
 a37 := Tryz.isAgg26
 z37 := Tryz.sizeOf26
 v37 := Tryz.zeroValue26
 t127 := Tryz.underlying254
 a127 := Tryz.isAgg254
 z127 := Tryz.sizeOf254
 v127 := Tryz.zeroValue254
 t5 := Tryz.underlying5
 a5 := Tryz.isAgg5
 z5 := Tryz.sizeOf5
 v5 := Tryz.zeroValue5
 i0 := by kernel_rfl
 i3 := by kernel_rfl
 i4 := by kernel_rfl
 i5 := by kernel_rfl
 i9 := by kernel_rfl
 i37 := by kernel_rfl
 i127 := by kernel_rfl }
open Go.RowKit in
theorem Tryz.stringslite_Clone (s : ByteArray) (w : World) (hlim : s.size <= 281474976710656) :
  Calls Tryz.prog 209 #[.string s] w fun e w' => e = .returned (.string s) /\ Below w.heap.size w w' := Any.stringslite_Clone Tryz.laysM316 s w hlim
def Tryz.lays145_ren : Go.Shelf.Ren := ⟨fun | 145 => 212 | 220 => 216 | 219 => 217 | 217 => 218 | 225 => 219 | 224 => 220 | 267 => 221 | 266 => 222 | 314 => 223 | n => n, fun | 9 => 9 | 4 => 4 | 59 => 256 | 3 => 3 | 5 => 5 | 46 => 158 | 146 => 264 | 51 => 263 | n => n, fun | 1 => 0 | n => n⟩
theorem Tryz.lays145 : Go.Proofs.Lays.n145 Tryz.prog Tryz.lays145_ren := {
 mixed := by kernel_rfl
 f145 := Tryz.func212.trans (congrArg some (by kernel_rfl))
 f217 := Tryz.func218.trans (congrArg some (by kernel_rfl))
 f219 := Tryz.func217.trans (congrArg some (by kernel_rfl))
 f220 := Tryz.func216.trans (congrArg some (by kernel_rfl))
 f224 := Tryz.func220.trans (congrArg some (by kernel_rfl))
 f225 := Tryz.func219.trans (congrArg some (by kernel_rfl))
 f266 := Tryz.func222.trans (congrArg some (by kernel_rfl))
 f267 := Tryz.func221.trans (congrArg some (by kernel_rfl))
 f314 := Tryz.func223.trans (congrArg some (by kernel_rfl))
 t3 := Tryz.underlying3
 a3 := Tryz.isAgg3
 z3 := Tryz.sizeOf3
 v3 := Tryz.zeroValue3
 t4 := Tryz.underlying4
 a4 := Tryz.isAgg4
 z4 := Tryz.sizeOf4
 v4 := Tryz.zeroValue4
 t5 := Tryz.underlying5
 a5 := Tryz.isAgg5
 z5 := Tryz.sizeOf5
 v5 := Tryz.zeroValue5
 t9 := Tryz.underlying9
 a9 := Tryz.isAgg9
 z9 := Tryz.sizeOf9
 v9 := Tryz.zeroValue9
 t46 := Tryz.underlying158
 a46 := Tryz.isAgg158
 z46 := Tryz.sizeOf158
 v46 := Tryz.zeroValue158
 t51 := Tryz.underlying263
 a51 := Tryz.isAgg263
 z51 := Tryz.sizeOf263
 v51 := Tryz.zeroValue263
 t59 := Tryz.underlying256
 a59 := Tryz.isAgg256
 z59 := Tryz.sizeOf256
 v59 := Tryz.zeroValue256
 t146 := Tryz.underlying264
 a146 := Tryz.isAgg264
 z146 := Tryz.sizeOf264
 v146 := Tryz.zeroValue264
 g1 := by kernel_rfl }
open Go.RowKit Go.Lib in
theorem Tryz.strings_Cut (s sep : ByteArray) (m : Int) (w : World) (hs : s.size < 4294967281) (hm : w.cell? ⟨0, 0, none⟩ = some (.int .i64 m)) :
  Calls Tryz.prog 212 #[.string s, .string sep] w fun e w' => e = .returned (.tuple #[.string ⟨(Lib.cut s.data.toList sep.data.toList).1.toArray⟩, .string ⟨(Lib.cut s.data.toList sep.data.toList).2.1.toArray⟩, .bool (Lib.cut s.data.toList sep.data.toList).2.2]) /\ ∃ n, w' = w.drewN n := Any.strings_Cut Tryz.lays145 s sep m w hs hm
def Tryz.laysM145_ren : Go.Shelf.Ren := ⟨fun | 145 => 212 | 220 => 216 | 219 => 217 | 217 => 218 | 225 => 219 | 224 => 220 | 267 => 221 | 266 => 222 | 314 => 223 | n => n, fun | 9 => 9 | 4 => 4 | 59 => 256 | 3 => 3 | 5 => 5 | 46 => 158 | 146 => 264 | 51 => 263 | n => n, fun | 1 => 0 | n => n⟩
theorem Tryz.laysM145 : Go.Proofs.LaysM.n145 Tryz.prog Tryz.laysM145_ren := {
 mixed := by kernel_rfl
 f145 := Tryz.func212.trans (congrArg some (by kernel_rfl))
 f217 := Tryz.func218.trans (congrArg some (by kernel_rfl))
 f219 := Tryz.func217.trans (congrArg some (by kernel_rfl))
 f220 := Tryz.func216.trans (congrArg some (by kernel_rfl))
 f224 := Tryz.func220.trans (congrArg some (by kernel_rfl))
 f225 := Tryz.func219.trans (congrArg some (by kernel_rfl))
 f266 := Tryz.func222.trans (congrArg some (by kernel_rfl))
 f267 := Tryz.func221.trans (congrArg some (by kernel_rfl))
 f314 := Tryz.func223.trans (congrArg some (by kernel_rfl))
 t3 := Tryz.underlying3
 a3 := Tryz.isAgg3
 z3 := Tryz.sizeOf3
 v3 := Tryz.zeroValue3
 t4 := Tryz.underlying4
 a4 := Tryz.isAgg4
 z4 := Tryz.sizeOf4
 v4 := Tryz.zeroValue4
 t5 := Tryz.underlying5
 a5 := Tryz.isAgg5
 z5 := Tryz.sizeOf5
 v5 := Tryz.zeroValue5
 t9 := Tryz.underlying9
 a9 := Tryz.isAgg9
 z9 := Tryz.sizeOf9
 v9 := Tryz.zeroValue9
 t46 := Tryz.underlying158
 a46 := Tryz.isAgg158
 z46 := Tryz.sizeOf158
 v46 := Tryz.zeroValue158
 t51 := Tryz.underlying263
 a51 := Tryz.isAgg263
 z51 := Tryz.sizeOf263
 v51 := Tryz.zeroValue263
 t59 := Tryz.underlying256
 a59 := Tryz.isAgg256
 z59 := Tryz.sizeOf256
 v59 := Tryz.zeroValue256
 t146 := Tryz.underlying264
 a146 := Tryz.isAgg264
 z146 := Tryz.sizeOf264
 v146 := Tryz.zeroValue264
 g1 := by kernel_rfl
 i3 := by kernel_rfl
 i4 := by kernel_rfl
 i5 := by kernel_rfl
 i9 := by kernel_rfl
 i46 := by kernel_rfl
 i51 := by kernel_rfl
 i59 := by kernel_rfl
 i146 := by kernel_rfl
 m1 := by kernel_rfl
 s1_3 := fun w h => Go.Proofs.cell_of_shapedOpen_int (zero := #[.int .i64 0]) (t := 3) h (of_decide_eq_true (by kernel_rfl)) (by kernel_rfl) rfl (by kernel_rfl) (by kernel_rfl) Tryz.underlying3 }
end Go.Proofs
