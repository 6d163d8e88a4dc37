/- Texts that the proof is made of, joined. No condition. -/
import Derived.Test.YtofnbapnmhibaaaGreatRows
import Derived.WalkKit
import Derived.WalkSpells
import Derived.WalkLawsBesides
import Derived.Lib.Hide
import Derived.Lib.AppendStr
import Derived.Laws.AppendOwnNone
import Derived.Laws.BitsAllLaws
import Derived.Deep.QuietTactic
import Derived.BigQuiet
import Derived.OpenShut
import Derived.SliceStrings
import Derived.Shelf.Strings.Builder1
import Derived.Shelf.Small.Wraps
import Derived.Shelf.Strings.BuilderF
import Derived.Shelf.Strings.BuilderK
import Derived.Shelf.LaysM
import Derived.Shelf.Strconv.Clone
import Derived.Shelf.Strings.Search1
import Derived.Shelf.Strings.Search2
import Derived.Shelf.Strings.Cut
import Derived.Shelf.Strings.Shaped
import Derived.Shelf.Strings.Prefix
import Derived.Test.YtofnbapnmhibaaaGreatProg
import Derived.Test.YtofnbapnmhibaaaGreatS6H
set_option linter.unusedVariables false
set_option linter.unusedSimpArgs false
set_option maxRecDepth 100000
set_option maxHeartbeats 16000000
namespace Go.Proofs.YtofnbapnmhibaaaGreat
open Go.RowKit
def nb (v : Nat) : List UInt8 :=
 if v < 128 then [UInt8.ofNat v] else UInt8.ofNat (v % 128 + 128) :: nb (v / 128)
termination_by v
decreasing_by omega
theorem nb_small {v : Nat} (h : v < 128) : nb v = [UInt8.ofNat v] := by rw [nb,if_pos h]
theorem nb_big {v : Nat} (h : ¬ v < 128) : nb v = UInt8.ofNat (v % 128 + 128) :: nb (v / 128) := by rw [nb,if_neg h]
theorem nb_pos (v : Nat) : 0 < (nb v).length := by
 by_cases h : v < 128
 ·rw [nb_small h]; simp
 ·rw [nb_big h]; simp
theorem nb_len : ∀ (k v : Nat),v < 128 ^ (k + 1) -> (nb v).length <= k + 1
 | 0,v,h => by rw [nb_small (by omega)]; simp
 | k + 1,v,h => by
  by_cases hv : v < 128
  ·rw [nb_small hv]; simp
  ·rw [nb_big hv]
   have := nb_len k (v / 128) (by rw [Nat.pow_succ] at h; omega)
   simp; omega
theorem nb_len10 {v : Nat} (h : v < 18446744073709551616) : (nb v).length <= 10 :=
 nb_len 9 v (Nat.lt_of_lt_of_le h (by decide))
def cnt (z : Int) : Nat := z.toNat
def U64 (v : Nat) : Prop := v < 18446744073709551616
theorem U64.out {v : Nat} (h : U64 v) : v < 18446744073709551616 := h
theorem U64.div {v : Nat} (h : U64 v) (k : Nat) : U64 (v / k) := Nat.lt_of_le_of_lt (Nat.div_le_self v k) h
def u8 (x : UInt8) : Value := .int .u8 (x.toNat : Int)
theorem u8_ofNat {n : Nat} (h : n < 256) : u8 (UInt8.ofNat n) = .int .u8 (n : Int) := by
 simp [u8,Nat.mod_eq_of_lt h]
theorem u8_one (l : List UInt8) : ∀ u ∈ l.map u8,u.oneCell' = true := by
 intro u hu
 obtain ⟨_,_,rfl⟩ := List.mem_map.1 hu
 rfl
def Rd (w : World) (v : Value) (l : List UInt8) : Prop :=
 ∃ (p : Option Addr) (cap : Nat),v = .slice p l.length cap /\ l.length <= cap /\ (p = none -> cap = 0) /\
  ∀ a,p = some a -> ∀ (i : Nat) x,l[i]? = some x -> w.cell? (a.add i) = some (u8 x)
def Own (w : World) (B : Nat) (v : Value) (l : List UInt8) : Prop := w.ownsRow B 5 1 v l.length (l.map u8)
theorem ret_int {k : IntKind} {a b : Int} (h : a = b) : Ending.returned (.int k a) = .returned (.int k b) := by rw [h]
theorem Tryz.infoB : (Tryz.prog.info? 5).map (fun i => (i.zero,i.size,i.bytes)) = some (some (.int .u8 0),1,1) := by kernel_rfl
theorem Own.len {w : World} {B : Nat} {v : Value} {l : List UInt8} (h : Own w B v l) : ∃ a c,v = .slice a l.length c /\ l.length <= c /\ c <= maxLen := by
 rcases h.2 with ⟨rfl,hn⟩ | ⟨g,cap,cur,rfl,_,_,h1,h2,_⟩
 ·exact ⟨none,0,by rw [hn],by omega,by unfold maxLen; omega⟩
 ·exact ⟨_,cap,rfl,h1,h2⟩
theorem Own.rd {w : World} {B : Nat} {v : Value} {l : List UInt8} (h : Own w B v l) : Rd w v l := by
 have hh := h
 rcases h.2 with ⟨rfl,hn⟩ | ⟨g,cap,cur,rfl,hb,hg,h1,h2,h3,h4⟩
 ·exact ⟨none,0,by rw [hn],by omega,fun _ => rfl,fun a ha => by cases ha⟩
 ·refine ⟨some ⟨g,0,none⟩,cap,rfl,h1,(fun h => by cases h),fun a ha => ?_⟩
  cases ha
  intro i x hx
  have := World.ownsRow.cells hh (g := g) rfl i (u8 x) (by simp [hx])
  exact this
theorem add_block (a : Addr) (i : Nat) : (a.add i).block = a.block := by unfold Addr.add; split <;> rfl
theorem Rd.below {B : Nat} {w w' : World} {v : Value} {l : List UInt8} (h : Rd w v l) (hb : Below B w w') (hv : l = [] ∨ ∀ g,v.ownBlock = some g -> g < B) : Rd w' v l := by
 obtain ⟨p,cap,rfl,h1,h2,h3⟩ := h
 rcases hv with rfl | hv
 ·exact ⟨p,cap,rfl,h1,h2,fun a ha i x hx => by simp at hx⟩
 refine ⟨p,cap,rfl,h1,h2,fun a ha i x hx => ?_⟩
 have hlt := hv a.block (by rw [ha]; rfl)
 rw [hb.cell (p := a.add i) (by rw [add_block]; exact hlt)]
 exact h3 a ha i x hx
end Go.Proofs.YtofnbapnmhibaaaGreat
namespace Go.Proofs.YtofnbapnmhibaaaGreat
open Go.RowKit
theorem wp_app {w : World} {ops : Array Oper} {rest : List Oper} {o : Oper} {a : Act} {Q : Exit -> Act -> World -> Prop} (hgd : o.guard = none) (s x : Operand)
  (ho : o.op = .call { callee := .builtin .append,args := #[s,x],argTypes := #[38,38] })
  (B : Nat) (v : Value) (l : List UInt8) (hs : a.eval s = v) (hown : Own w B v l) (vx : Value) (m : List UInt8) (hx : a.eval x = vx) (hrd : Rd w vx m)
  (hb : l.length + m.length <= 140737488355328) (hbase : B <= w.heap.size)
  (h : ∀ v' w',Own w' B v' (l ++ m) -> w.grownBy w' v.ownBlock -> (v' = .slice none 0 0 ↔ v = .slice none 0 0 /\ m = []) -> wpList Tryz.prog ops Q rest (a.put o.dst v') w') :
  wpList Tryz.prog ops Q (o :: rest) a w := by
 obtain ⟨i0,hi,hz0,hz1,hz2⟩ := info_parts Tryz.infoB
 obtain ⟨p,cap,rfl,hle,hn,hc⟩ := hrd
 cases p with
 | none =>
  have hc0 := hn rfl
  have hl0 : m.length = 0 := by omega
  have hm : m = [] := List.eq_nil_of_length_eq_zero hl0
  subst hm
  subst hc0
  refine wpList_append_own_none hgd s x 38 ho B 5 i0 1 Tryz.underlying38 hi v l.length (l.map u8) hs hown hx ?_
  refine h v w (by rw [List.append_nil]; exact hown) ⟨rfl,rfl,rfl,Nat.le_refl _,fun _ _ _ => rfl⟩ ?_
  exact ⟨fun h => ⟨h,rfl⟩,fun h => h.1⟩
 | some ad =>
  refine wpList_append_own w hgd s x 38 ho B 5 i0 (.int .u8 0) 1 1 Tryz.underlying38 hi hz0 hz1 hz2 rfl (by decide) v l.length (l.map u8) hs hown ad m.length cap (m.map u8) hx (by simp) ?_ (u8_one m)
   (by unfold maxLen; omega) (by omega) hbase ?_
  ·intro j u hj
   rw [List.getElem?_map,Option.map_eq_some_iff] at hj
   obtain ⟨b,hb1,rfl⟩ := hj
   exact hc ad rfl j b hb1
  ·intro v' w' h1 h2 h3
   refine h v' w' ?_ h2 ?_
   ·unfold Own
    rw [List.length_append,List.map_append]
    exact h1
   ·rw [h3]
    exact ⟨fun h => ⟨h.1,List.eq_nil_of_length_eq_zero h.2⟩,fun h => ⟨h.1,by rw [h.2]; rfl⟩⟩
def sb (s : ByteArray) : List UInt8 := s.data.toList
end Go.Proofs.YtofnbapnmhibaaaGreat
namespace Go.Proofs.YtofnbapnmhibaaaGreat
open Go.RowKit
theorem or128_nat : ∀ x,x < 256 -> x ||| 128 = x % 128 + 128 := by decide +kernel
theorem or128 (u : Nat) : bits .or .u8 ((u : Int) % 256) 128 = ((u % 128 + 128 : Nat) : Int) := by
 have h : ((u : Int) % 256) = ((u % 256 : Nat) : Int) := by omega
 rw [h,show (128 : Int) = ((128 : Nat) : Int) from rfl,u8_or_nat _ _ (by omega) (by omega),or128_nat _ (by omega)]
 omega
def goOn (u : Nat) : UInt8 := UInt8.ofNat (u % 128 + 128)
theorem u8_goOn (u : Nat) : u8 (goOn u) = .int .u8 ((u % 128 + 128 : Nat) : Int) := u8_ofNat (by omega)
end Go.Proofs.YtofnbapnmhibaaaGreat
namespace Go.Proofs.YtofnbapnmhibaaaGreat
open Go.RowKit
theorem Own.alloc {w : World} {B : Nat} {v : Value} {l : List UInt8} (h : Own w B v l) (o : Obj) : Own (w.alloc o) B v l := World.ownsRow.alloc h o
theorem Own.lt {w : World} {B : Nat} {v : Value} {l : List UInt8} (h : Own w B v l) : ∀ k,v.ownBlock = some k -> B <= k /\ k < w.heap.size := World.ownsRow.lt h
theorem rd_new1 (w : World) (v : Value) (t : TypeId) (x : UInt8) (hv : v = u8 x) : Rd (w.alloc (.cells #[v] t)) (.slice (some ⟨w.heap.size,0,none⟩) 1 1) [x] := by
 subst hv
 refine ⟨_,1,rfl,by simp,(fun h => by cases h),fun a ha => ?_⟩
 cases ha
 intro i y hy
 match i,hy with
 | 0,hy =>
  simp at hy; subst hy
  simp [Addr.add]
theorem put_any (B : Nat) (v0 : Value) (l : List UInt8) (n : Nat) (w : World) (hn : U64 n) (hB : B <= w.heap.size) (ho : Own w B v0 l) (hl : l.length <= 100000000) :
  Calls Tryz.prog 89 #[v0,.int .u64 n] w fun e w' => ∃ v,e = .returned v /\ Own w' B v (l ++ nb n) /\ Below B w w' := by
 go_enter Tryz.func89,Tryz.ntmps89
 go_wp2
 go_loopw [0,1] (fun s x wr => ∃ (u : Nat) (m : List UInt8),U64 u /\ x = .int .u64 u /\ m.length + (nb u).length = l.length + (nb n).length /\ m ++ nb u = l ++ nb n /\ Own wr B s m /\ Below B w wr) (fun _ x _ => (intOf x).toNat)
 case atStart => exact ⟨n,l,hn,rfl,rfl,rfl,ho,Below.refl _ _⟩
 case round =>
  obtain ⟨u,m,hu,rfl,hk,hm,hown,hbel⟩ := hrel
  have hp := nb_pos u
  have H := hid hk; clear hk
  have HM := hid hm; clear hm
  have hml : m.length <= 100000010 := by have := H.out; have := nb_len10 hn.out; omega
  have hbs : B <= wr.heap.size := Nat.le_trans hB hbel.size
  by_cases hlt : u < 128
  ·go_wp2_with (at_builtin; refine wp_app rfl _ _ rfl B _ m rfl (hown.alloc _) _ [UInt8.ofNat u] rfl (rd_new1 _ _ _ _ ?c1) ?c2 ?c3 ?_)
   case c1 => exact (u8_ofNat (by omega)).symm
   case c2 => simp; omega
   case c3 => simp; omega
   intro v' w' h1 h2 _
   have hlt' := hown.lt
   have hfin : Own w' B v' (l ++ nb n) := by have := HM.out; rw [<- this,nb_small hlt]; exact h1
   have hb' : Below B w w' := (hbel.alloc hbs _).grown h2 (by simp; omega) (fun k hk => (hlt' k hk).1)
   clear h1 h2 hown
   have HF := hid hfin; clear hfin
   go_wp2
   go_ret
   exact ⟨_,rfl,HF.out,hb'⟩
  ·go_wp2_with (at_builtin; refine wp_app rfl _ _ rfl B _ m rfl (hown.alloc _) _ [goOn u] rfl (rd_new1 _ _ _ _ ?c1) ?c2 ?c3 ?_)
   case c1 => rw [u8_goOn,or128]
   case c2 => simp; omega
   case c3 => simp; omega
   intro v' w' h1 h2 _
   have hlt' := hown.lt
   have hb' : Below B w w' := (hbel.alloc hbs _).grown h2 (by simp; omega) (fun k hk => (hlt' k hk).1)
   go_wp2
   go_roundw
   case rel => exact ⟨u / 128,m ++ [goOn u],hu.div _,by go_num,by have := H.out; rw [nb_big hlt] at this; simp at this ⊢; omega,by have := HM.out; rw [nb_big hlt] at this; rw [<- this]; simp [goOn],h1,hb'⟩
   case measure => simp [intOf]; omega
end Go.Proofs.YtofnbapnmhibaaaGreat
namespace Go.Proofs.YtofnbapnmhibaaaGreat
open Go.RowKit
theorem count_any (n : Int) (w : World) (h1 : -9223372036854775808 <= n) (h2 : n <= 9223372036854775807) :
  Calls Tryz.prog 87 #[.int .i64 n] w fun e w' => e = .returned (.int .u64 (cnt n : Int)) /\ w = w' := by
 by_cases h : 0 <= n
 all_goals
  go_enter Tryz.func87,Tryz.ntmps87
  go_wp2
  go_ret
  exact ⟨ret_int (by unfold cnt; omega),rfl⟩
theorem fold_any (n : Int) (w : World) (h1 : -2147483648 <= n) (h2 : n <= 2147483647) :
  Calls Tryz.prog 104 #[.int .i32 n] w fun e w' => e = .returned (.int .u64 (if n < 0 then -2 * n - 1 else 2 * n)) /\ w = w' := by
 by_cases h : n < 0
 all_goals
  go_enter Tryz.func104,Tryz.ntmps104
  go_wp2
  go_ret
  exact ⟨rfl,rfl⟩
theorem width_any (v : Nat) (w : World) (h1 : U64 v) :
  Calls Tryz.prog 86 #[.int .u64 v] w fun e w' => e = .returned (.int .i64 (nb v).length) /\ w = w' := by
 have hl := nb_len10 h1.out
 go_enter Tryz.func86,Tryz.ntmps86
 go_wp2
 go_loop [0,3] (fun x n => ∃ (k u : Nat),U64 u /\ x = .int .u64 u /\ n = .int .i64 k /\ k + (nb u).length = 1 + (nb v).length) (fun x _ => (intOf x).toNat)
 case atStart => exact ⟨1,v,h1,rfl,rfl,rfl⟩
 case round =>
  obtain ⟨k,u,hu,rfl,rfl,hk⟩ := hrel
  have hp := nb_pos u
  have hk11 : k <= 10 := by omega
  have H := hid hk; clear hk
  by_cases hlt : u < 128
  ·go_wp2
   go_ret
   exact ⟨ret_int (by have := H.out; rw [nb_small hlt] at this; simp at this; omega),rfl⟩
  ·go_wp2
   go_round
   case rel => exact ⟨k + 1,u / 128,U64.div hu _,by go_num,by go_num,by have := H.out; rw [nb_big hlt] at this; simp at this; omega⟩
   case measure => simp [intOf]; omega
end Go.Proofs.YtofnbapnmhibaaaGreat
namespace Go.Proofs.YtofnbapnmhibaaaGreat
open Go.RowKit
theorem wp_mk {w : World} {ops : Array Oper} {rest : List Oper} {o : Oper} {a : Act} {Q : Exit -> Act -> World -> Prop} (hgd : o.guard = none) (s x : Operand)
  (ho : o.op = Op.makeSlice 38 s x)
  (B : Nat) (C : Int) (n : Nat) (hs : a.eval s = .int .i64 0) (hx : a.eval x = .int .i64 C) (hC : C = (n : Int)) (hn : n <= 140737488355328) (hbase : B <= w.heap.size)
  (h : ∀ w',Own w' B (.slice (some ⟨w.heap.size,0,none⟩) 0 n) [] -> w.grownBy w' none -> wpList Tryz.prog ops Q rest (a.put o.dst (.slice (some ⟨w.heap.size,0,none⟩) 0 n)) w') :
  wpList Tryz.prog ops Q (o :: rest) a w := by
 obtain ⟨i0,hi,hz0,hz1,hz2⟩ := info_parts Tryz.infoB
 exact wpList_make_own w hgd s x 38 ho B 5 i0 (.int .u8 0) 1 Tryz.underlying38 hi hz0 hz1 .i64 .i64 C n hs hx hC (by rw [hz2]; omega) (by unfold maxLen; omega) hbase h
theorem below_grown_none {B : Nat} {w w' : World} (hg : w.grownBy w' none) (hB : B <= w.heap.size) : Below B w w' := (Below.refl _ _).grown hg hB (fun k hk => by cases hk)
theorem room_any (v0 : Value) (l : List UInt8) (n : Int) (w : World) (hr : Rd w v0 l) (hv : l = [] ∨ ∀ g,v0.ownBlock = some g -> g < w.heap.size) (hl : l.length <= 50000000) (h0 : 0 <= n) (h1 : n <= 50000000) :
  Calls Tryz.prog 88 #[v0,.int .i64 n] w fun e w' => ∃ v,e = .returned v /\ Own w' w.heap.size v l /\ Below w.heap.size w w' := by
 obtain ⟨p,cap,rfl,hx⟩ := id hr
 go_enter Tryz.func88,Tryz.ntmps88
 go_wp2_with (at_make; refine wp_mk rfl _ _ rfl w.heap.size _ (l.length + n.toNat) rfl rfl ?c1 ?c2 ?c3 ?_)
 case c1 => omega
 case c2 => omega
 case c3 => omega
 intro w1 ho1 hg1
 have hb1 : Below w.heap.size w w1 := below_grown_none hg1 (Nat.le_refl _)
 have hr1 := hr.below hb1 hv
 have hs1 := hb1.size
 go_wp2_with (at_builtin; refine wp_app rfl _ _ rfl w.heap.size _ [] rfl ho1 _ l rfl hr1 ?d1 ?d2 ?_)
 case d1 => simp; omega
 case d2 => omega
 intro v2 w2 ho2 hg2 _
 have hb2 : Below w.heap.size w w2 := hb1.grown hg2 hs1 (fun k hk => (ho1.lt k hk).1)
 have HO := hid ho2
 clear ho2 hr1
 go_wp2
 go_ret
 exact ⟨_,rfl,by have := HO.out; simpa using this,hb2⟩
def foldN (n : Int) : Nat := if n < 0 then (-2 * n - 1).toNat else (2 * n).toNat
theorem foldN_int (n : Int) : (if n < 0 then -2 * n - 1 else 2 * n) = (foldN n : Int) := by unfold foldN; split <;> omega
theorem foldN_lt {n : Int} (h1 : -2147483648 <= n) (h2 : n <= 2147483647) : foldN n <= 4294967295 := by unfold foldN; split <;> omega
theorem fold_nat (n : Int) (w : World) (h1 : -2147483648 <= n) (h2 : n <= 2147483647) :
  Calls Tryz.prog 104 #[.int .i32 n] w fun e w' => e = .returned (.int .u64 (foldN n : Int)) /\ w = w' :=
 (fold_any n w h1 h2).mono fun _ _ ⟨he,hw⟩ => ⟨by rw [he,foldN_int],hw⟩
theorem u64_of_le {v m : Nat} (h : v <= m) (hm : m < 18446744073709551616) : U64 v := Nat.lt_of_le_of_lt h hm
theorem int_any (v0 : Value) (l : List UInt8) (n : Int) (w : World) (hr : Rd w v0 l) (hv : l = [] ∨ ∀ g,v0.ownBlock = some g -> g < w.heap.size) (hl : l.length <= 50000000) (h1 : -2147483648 <= n) (h2 : n <= 2147483647) :
  Calls Tryz.prog 97 #[v0,.int .i32 n] w fun e w' => ∃ v,e = .returned v /\ Own w' w.heap.size v (l ++ nb (foldN n)) /\ Below w.heap.size w w' := by
 have hu : U64 (foldN n) := u64_of_le (foldN_lt h1 h2) (by decide)
 have hw := nb_len10 hu.out
 go_enter Tryz.func97,Tryz.ntmps97
 go_wp2_with fail
 refine (fold_nat _ _ h1 h2).mono ?_
 rintro e w' ⟨rfl,rfl⟩
 go_wp2_with fail
 refine (width_any _ _ hu).mono ?_
 rintro e w' ⟨rfl,rfl⟩
 go_wp2_with fail
 refine (room_any v0 l _ _ hr hv hl (by omega) (by omega)).mono ?_
 rintro e w1 ⟨v1,rfl,ho1,hb1⟩
 go_wp2_with fail
 refine (put_any _ _ _ _ _ hu hb1.size ho1 (by omega)).mono ?_
 rintro e w2 ⟨v2,rfl,ho2,hb2⟩
 go_wp2
 go_ret
 exact ⟨_,rfl,ho2,hb1.trans hb2⟩
end Go.Proofs.YtofnbapnmhibaaaGreat
namespace Go.Proofs.YtofnbapnmhibaaaGreat
open Go.RowKit
def RdI (w : World) (v : Value) (zs : List Int) : Prop :=
 ∃ (p : Option Addr) (cap : Nat),v = .slice p zs.length cap /\ (∀ a,p = some a -> zs ≠ [] -> a.spot = none) /\ (p = none -> zs = []) /\
  (∀ (i : Nat) x,zs[i]? = some x -> -9223372036854775808 <= x /\ x <= 9223372036854775807) /\
  ∀ a,p = some a -> ∀ (i : Nat) x,zs[i]? = some x -> w.cell? ⟨a.block,a.off + i,none⟩ = some (.int .i64 x)
def nums (zs : List Int) : List UInt8 := zs.flatMap fun z => nb (cnt z)
theorem nums_snoc (zs : List Int) (k : Nat) (z : Int) (h : zs[k]? = some z) : nums (zs.take (k + 1)) = nums (zs.take k) ++ nb (cnt z) := by
 obtain ⟨hk,rfl⟩ := List.getElem?_eq_some_iff.1 h
 rw [List.take_succ_eq_append_getElem hk,nums,nums,List.flatMap_append,List.flatMap_cons,List.flatMap_nil,List.append_nil]
theorem toNat_u64 {z : Int} (h : z <= 9223372036854775807) : U64 (cnt z) := Nat.lt_of_le_of_lt (m := 9223372036854775807) (by unfold cnt; omega) (by decide)
theorem nums_take_len (zs : List Int) (hz : ∀ (i : Nat) x,zs[i]? = some x -> -9223372036854775808 <= x /\ x <= 9223372036854775807) : ∀ k,(nums (zs.take k)).length <= 10 * k
 | 0 => by simp [nums]
 | k + 1 => by
  have ih := nums_take_len zs hz k
  cases h : zs[k]? with
  | none =>
   have hk := List.getElem?_eq_none_iff.1 h
   rw [List.take_of_length_le (by omega)]
   rw [List.take_of_length_le (by omega)] at ih
   omega
  | some z =>
   rw [nums_snoc zs k z h,List.length_append]
   have := nb_len10 (toNat_u64 (hz k z h).2).out
   omega
theorem num_any (v0 vi : Value) (l : List UInt8) (zs : List Int) (w : World) (hr : Rd w v0 l) (hv : l = [] ∨ ∀ g,v0.ownBlock = some g -> g < w.heap.size) (hl : l.length <= 40000000)
  (hi : RdI w vi zs) (hvi : zs = [] ∨ ∀ g,vi.ownBlock = some g -> g < w.heap.size) (hlz : zs.length <= 1000) :
  Calls Tryz.prog 63 #[v0,vi] w fun e w' => ∃ v,e = .returned v /\ Own w' w.heap.size v (l ++ nums zs) /\ Below w.heap.size w w' := by
 obtain ⟨p,cap,rfl,h1,h2,hz,hc⟩ := id hi
 have hL := nums_take_len zs hz
 by_cases hzn : zs = []
 ·subst hzn
  have hr0 := hr
  go_enter Tryz.func63,Tryz.ntmps63
  go_wp2
  go_loop [5,13] (fun s i => i = .int .i64 0 /\ s = .int .i64 0) (fun _ _ => 0)
  case atStart => exact ⟨rfl,rfl⟩
  case round =>
   obtain ⟨rfl,rfl⟩ := hrel
   go_wp2_with fail
   refine (room_any v0 l 0 _ hr0 hv (by omega) (by omega) (by omega)).mono ?_
   rintro e w1 ⟨v1,rfl,ho1,hb1⟩
   go_wp2
   go_loop [8,28] (fun s i => i = .int .i64 0 /\ s = v1) (fun _ _ => 0)
   case atStart => exact ⟨rfl,rfl⟩
   case round =>
    obtain ⟨rfl,rfl⟩ := hrel
    go_wp2
    go_ret
    exact ⟨_,rfl,by simpa [nums] using ho1,hb1⟩
 ·obtain ⟨ad,rfl⟩ : ∃ ad,p = some ad := by
   cases p with
   | none => exact absurd (h2 rfl) hzn
   | some ad => exact ⟨ad,rfl⟩
  obtain ⟨b,off,spot⟩ := ad
  have := h1 _ rfl hzn
  simp only at this
  subst this
  have hbw : b < w.heap.size := (hvi.resolve_left hzn) b rfl
  have hc0 := hc _ rfl
  simp only at hc0
  have HZ := hid hz
  have HC := hid hc0
  clear hz hc0 hc h1 h2 hzn
  go_enter Tryz.func63,Tryz.ntmps63
  go_wp2
  go_loop [5,13] (fun s i => ∃ k : Nat,k <= zs.length /\ i = .int .i64 k /\ s = .int .i64 (nums (zs.take k)).length) (fun _ i => zs.length - (intOf i).toNat)
  case atStart => exact ⟨0,Nat.zero_le _,rfl,by simp [nums]⟩
  case round =>
   obtain ⟨k,hk,rfl,rfl⟩ := hrel
   by_cases hlt : k < zs.length
   ·obtain ⟨z,hzk⟩ : ∃ z,zs[k]? = some z := ⟨_,List.getElem?_eq_getElem hlt⟩
    have hcell : w.cell? ⟨b,off + k,none⟩ = some (.int .i64 z) := HC.out k z hzk
    have hzb := HZ.out k z hzk
    have hzb1 := hzb.1
    have hzb2 := hzb.2
    have hus := nums_snoc zs k z hzk
    have huu := toNat_u64 hzb2
    have hwz := nb_len10 huu.out
    have hLk := hL k
    have HU := hid hus
    clear hzb hus hzk
    go_wp2_with fail
    refine (count_any z _ hzb1 hzb2).mono ?_
    rintro e w' ⟨rfl,rfl⟩
    go_wp2_with fail
    refine (width_any _ _ huu).mono ?_
    rintro e w' ⟨rfl,rfl⟩
    go_wp2
    go_round
    case rel => exact ⟨k + 1,by omega,by go_num,by rw [HU.out,List.length_append]; go_num⟩
    case measure => simp [intOf]; omega
   ·have hLk := hL k
    go_wp2_with fail
    refine (room_any v0 l _ _ hr hv (by omega) (by omega) (by omega)).mono ?_
    rintro e w1 ⟨v1,rfl,ho1,hb1⟩
    have hs1 := hb1.size
    go_wp2
    go_loopw [8,28] (fun s i wr => ∃ k : Nat,k <= zs.length /\ i = .int .i64 k /\ Own wr w.heap.size s (l ++ nums (zs.take k)) /\ Below w.heap.size w wr) (fun _ i _ => zs.length - (intOf i).toNat)
    case atStart => exact ⟨0,Nat.zero_le _,rfl,by simpa [nums] using ho1,hb1⟩
    case round =>
     clear ho1 hb1 hs1 hLk
     obtain ⟨k,hk,rfl,ho,hbl⟩ := hrel
     have hsr := hbl.size
     by_cases hlt : k < zs.length
     ·obtain ⟨z,hzk⟩ : ∃ z,zs[k]? = some z := ⟨_,List.getElem?_eq_getElem hlt⟩
      have hcell : wr.cell? ⟨b,off + k,none⟩ = some (.int .i64 z) := (hbl.cell (p := ⟨b,off + k,none⟩) hbw).trans (HC.out k z hzk)
      have hzb := HZ.out k z hzk
      have hzb1 := hzb.1
      have hzb2 := hzb.2
      have huu := toNat_u64 hzb2
      have hLk := hL k
      have hlen : (l ++ nums (zs.take k)).length <= 100000000 := by rw [List.length_append]; omega
      have HU := hid (nums_snoc zs k z hzk)
      have HO := hid ho
      clear hzb hzk ho
      go_wp2_with fail
      refine (count_any z _ hzb1 hzb2).mono ?_
      rintro e w' ⟨rfl,rfl⟩
      go_wp2_with fail
      refine (put_any _ _ _ _ _ huu hsr HO.out hlen).mono ?_
      rintro e w2 ⟨v2,rfl,ho2,hb2⟩
      have HO2 := hid ho2
      have hb3 := hbl.trans hb2
      clear ho2
      go_wp2
      go_roundw
      case rel => exact ⟨k + 1,by omega,by go_num,by rw [HU.out,<- List.append_assoc]; exact HO2.out,hb3⟩
      case measure => simp [intOf]; omega
     ·have HO := hid ho
      clear ho
      go_wp2
      go_ret
      exact ⟨_,rfl,by have := HO.out; rw [List.take_of_length_le (by omega)] at this; exact this,hbl⟩
end Go.Proofs.YtofnbapnmhibaaaGreat
namespace Go.Proofs.YtofnbapnmhibaaaGreat
open Go.RowKit
def twoN (n : Int) : Nat := min (cnt n) 65535
def two (n : Int) : List UInt8 := [UInt8.ofNat (twoN n % 256),UInt8.ofNat (twoN n / 256)]
theorem int_eq {k : IntKind} {a b : Int} (h : a = b) : Value.int k a = Value.int k b := by rw [h]
theorem rd_new2 (w : World) (v1 v2 : Value) (t : TypeId) (x y : UInt8) (h1 : v1 = u8 x) (h2 : v2 = u8 y) : Rd (w.alloc (.cells #[v1,v2] t)) (.slice (some ⟨w.heap.size,0,none⟩) 2 2) [x,y] := by
 subst h1
 subst h2
 refine ⟨_,2,rfl,by simp,(fun h => by cases h),fun a ha => ?_⟩
 cases ha
 intro i z hz
 match i,hz with
 | 0,hz => simp at hz; subst hz; simp [Addr.add]
 | 1,hz => simp at hz; subst hz; simp [Addr.add]
theorem two_any (v0 : Value) (l : List UInt8) (n : Int) (w : World) (hr : Rd w v0 l) (hv : l = [] ∨ ∀ g,v0.ownBlock = some g -> g < w.heap.size) (hl : l.length <= 40000000) (h1 : -9223372036854775808 <= n) (h2 : n <= 9223372036854775807) :
  Calls Tryz.prog 64 #[v0,.int .i64 n] w fun e w' => ∃ v,e = .returned v /\ Own w' w.heap.size v (l ++ two n) /\ Below w.heap.size w w' := by
 have e1 : twoN n = min (cnt n) 65535 := rfl
 have hm : twoN n <= 65535 := by unfold twoN; omega
 have HM := hid e1
 clear e1
 by_cases hc : cnt n <= 65535
 all_goals
  go_enter Tryz.func64,Tryz.ntmps64
  go_wp2_with fail
  refine (count_any n _ h1 h2).mono ?_
  rintro e w' ⟨rfl,rfl⟩
  go_wp2_with fail
  refine (room_any v0 l _ _ hr hv (by omega) (by omega) (by omega)).mono ?_
  rintro e w1 ⟨v1,rfl,ho1,hb1⟩
  have hs1 := hb1.size
  go_wp2_with (at_builtin; refine wp_app rfl _ _ rfl w.heap.size _ l rfl (ho1.alloc _) _ (two n) rfl (rd_new2 _ _ _ _ _ _ ?c1 ?c2) ?d1 ?d2 ?_)
  case c1 => rw [u8_ofNat (by omega)]; exact int_eq (by have := HM.out; omega)
  case c2 => rw [u8_ofNat (by omega)]; exact int_eq (by have := HM.out; omega)
  case d1 => simp [two]; omega
  case d2 => simp; omega
  intro v2 w2 ho2 hg2 _
  have hb2 : Below w.heap.size w w2 := (hb1.alloc hs1 _).grown hg2 (by simp; omega) (fun k hk => (ho1.lt k hk).1)
  have HO := hid ho2
  clear ho2
  go_wp2
  go_ret
  exact ⟨_,rfl,HO.out,hb2⟩
end Go.Proofs.YtofnbapnmhibaaaGreat
namespace Go.Proofs.YtofnbapnmhibaaaGreat
open Go.RowKit
theorem grown_set (w : World) (rb j : Nat) (u : Value) : w.grownBy (w.setCell ⟨rb,j,none⟩ u) (some rb) :=
 ⟨rfl,rfl,rfl,by simp,fun k _ hk => heap_setCell_other w ⟨rb,j,none⟩ k u (fun e => hk (by simp [e]))⟩
theorem grown_refl (w : World) (r : Option Nat) : w.grownBy w r := ⟨rfl,rfl,rfl,Nat.le_refl _,fun _ _ _ => rfl⟩
def unfoldN (v : Nat) : Int := if v % 2 = 1 then -((v : Int) / 2) - 1 else (v : Int) / 2
end Go.Proofs.YtofnbapnmhibaaaGreat
namespace Go.Proofs.YtofnbapnmhibaaaGreat
open Go.RowKit
theorem ret_str {a b : ByteArray} (h : a = b) : Ending.returned (.string a) = .returned (.string b) := by rw [h]
end Go.Proofs.YtofnbapnmhibaaaGreat
namespace Go.Proofs.YtofnbapnmhibaaaGreat
open Go.RowKit
theorem rd_nil (w : World) : Rd w (.slice none 0 0) [] := ⟨none,0,rfl,Nat.le_refl _,fun _ => rfl,fun a ha => by cases ha⟩
def kb : List UInt8 := [172,2,3,2,97,98,1,2,128]
end Go.Proofs.YtofnbapnmhibaaaGreat
namespace Go.Proofs.YtofnbapnmhibaaaGreat
open Go.RowKit
theorem add_add (x : Addr) (i : Nat) (h : x.spot = none) : x.add i = ⟨x.block,x.off + i,none⟩ := by
 obtain ⟨b,o,s⟩ := x
 simp only at h
 subst h
 unfold Addr.add
 split <;> simp_all
end Go.Proofs.YtofnbapnmhibaaaGreat
namespace Go.Proofs
open Go.Shelf
def Tryz.lays169_ren : Go.Shelf.Ren := ⟨fun | 169 => 94 | n => n,fun | 70 => 146 | 9 => 9 | 0 => 0 | 72 => 148 | 37 => 38 | 127 => 158 | 3 => 3 | 5 => 5 | n => n,fun | n => n⟩
theorem Tryz.lays169 : Go.Proofs.Lays.n169 Tryz.prog Tryz.lays169_ren := {
 mixed := by kernel_rfl
 f169 := Tryz.func94.trans (congrArg some (by kernel_rfl))
 t0 := Tryz.underlying0
 a0 := Tryz.isAgg0
 z0 := Tryz.sizeOf0
 v0 := Tryz.zeroValue0
 t3 := Tryz.underlying3
 a3 := Tryz.isAgg3
 z3 := Tryz.sizeOf3
 v3 := Tryz.zeroValue3
 t9 := Tryz.underlying9
 a9 := Tryz.isAgg9
 z9 := Tryz.sizeOf9
 v9 := Tryz.zeroValue9
 t37 := Tryz.underlying38
 a37 := Tryz.isAgg38
 z37 := Tryz.sizeOf38
 v37 := Tryz.zeroValue38
 t70 := Tryz.underlying146
 a70 := Tryz.isAgg146
 z70 := Tryz.sizeOf146
 v70 := Tryz.zeroValue146
 t72 := Tryz.underlying148
 a72 := Tryz.isAgg148
 z72 := Tryz.sizeOf148
 v72 := Tryz.zeroValue148
 t127 := Tryz.underlying158
 a127 := Tryz.isAgg158
 z127 := Tryz.sizeOf158
 v127 := Tryz.zeroValue158 }
theorem Tryz.Builder_Extra_169 : Builder.Extra Tryz.prog Tryz.lays169_ren := {
 sizeBuilder := by kernel_rfl
 liesBuilder := by kernel_rfl
 t5 := Tryz.underlying5
 a5 := Tryz.isAgg5
 z5 := Tryz.sizeOf5
 v5 := Tryz.zeroValue5
 infoByte := by kernel_rfl
 cellsByte := by kernel_rfl
 sizeByte := by kernel_rfl
 neB5 := by decide }
open Go.RowKit in
theorem Tryz.Builder_String_any (B b : Nat) (l : List UInt8) (w : World) (h : Lib.IsBuilder 148 5 B b (Lib.byteCells l) w) (hBw : B <= w.heap.size) :
  Calls Tryz.prog 94 #[.pointer (some ⟨b,0,none⟩)] w fun e w' => e = .returned (.string ⟨l.toArray⟩) /\ Below B w w' := Any.Builder_String_any Tryz.lays169 Tryz.Builder_Extra_169 B b l w h hBw
def Tryz.lays103_ren : Go.Shelf.Ren := ⟨fun | 103 => 108 | 210 => 111 | 206 => 113 | n => n,fun | 9 => 9 | 4 => 4 | 24 => 164 | 3 => 3 | n => n,fun | n => n⟩
theorem Tryz.lays103 : Go.Proofs.Lays.n103 Tryz.prog Tryz.lays103_ren := {
 mixed := by kernel_rfl
 f103 := Tryz.func108.trans (congrArg some (by kernel_rfl))
 f206 := Tryz.func113.trans (congrArg some (by kernel_rfl))
 f210 := Tryz.func111.trans (congrArg some (by kernel_rfl))
 t3 := Tryz.underlying3
 a3 := Tryz.isAgg3
 z3 := Tryz.sizeOf3
 v3 := Tryz.zeroValue3
 t4 := Tryz.underlying4
 a4 := Tryz.isAgg4
 z4 := Tryz.sizeOf4
 v4 := Tryz.zeroValue4
 t9 := Tryz.underlying9
 a9 := Tryz.isAgg9
 z9 := Tryz.sizeOf9
 v9 := Tryz.zeroValue9
 t24 := Tryz.underlying164
 a24 := Tryz.isAgg164
 z24 := Tryz.sizeOf164
 v24 := Tryz.zeroValue164 }
open Go.RowKit in
theorem Tryz.strings_CutPrefix (s p : ByteArray) (w : World) :
  Calls Tryz.prog 108 #[.string s,.string p] w fun e w' => e = .returned (.tuple #[.string ⟨(Lib.trimPrefix s.data.toList p.data.toList).toArray⟩,.bool (Lib.hasPrefix s.data.toList p.data.toList)]) /\ w' = w := Any.strings_CutPrefix Tryz.lays103 s p w
def Tryz.laysM316_ren : Go.Shelf.Ren := ⟨fun | 316 => 102 | n => n,fun | 9 => 9 | 3 => 3 | 4 => 4 | 37 => 38 | 0 => 0 | 127 => 158 | 5 => 5 | n => n,fun | n => n⟩
theorem Tryz.laysM316 : Go.Proofs.LaysM.n316 Tryz.prog Tryz.laysM316_ren := {
 mixed := by kernel_rfl
 f316 := Tryz.func102.trans (congrArg some (by kernel_rfl))
 t0 := Tryz.underlying0
 a0 := Tryz.isAgg0
 z0 := Tryz.sizeOf0
 v0 := Tryz.zeroValue0
 t3 := Tryz.underlying3
 a3 := Tryz.isAgg3
 z3 := Tryz.sizeOf3
 v3 := Tryz.zeroValue3
 t4 := Tryz.underlying4
 a4 := Tryz.isAgg4
 z4 := Tryz.sizeOf4
 v4 := Tryz.zeroValue4
 t9 := Tryz.underlying9
 a9 := Tryz.isAgg9
 z9 := Tryz.sizeOf9
 v9 := Tryz.zeroValue9
 t37 := Tryz.underlying38
 a37 := Tryz.isAgg38
 z37 := Tryz.sizeOf38
 v37 := Tryz.zeroValue38
 t127 := Tryz.underlying158
 a127 := Tryz.isAgg158
 z127 := Tryz.sizeOf158
 v127 := Tryz.zeroValue158
 t5 := Tryz.underlying5
 a5 := Tryz.isAgg5
 z5 := Tryz.sizeOf5
 v5 := Tryz.zeroValue5
 i0 := by kernel_rfl
 i3 := by kernel_rfl
 i4 := by kernel_rfl
 i5 := by kernel_rfl
 i9 := by kernel_rfl
 i37 := by kernel_rfl
 i127 := by kernel_rfl }
open Go.RowKit in
theorem Tryz.stringslite_Clone (s : ByteArray) (w : World) (hlim : s.size <= 281474976710656) :
  Calls Tryz.prog 102 #[.string s] w fun e w' => e = .returned (.string s) /\ Below w.heap.size w w' := Any.stringslite_Clone Tryz.laysM316 s w hlim
def Tryz.lays145_ren : Go.Shelf.Ren := ⟨fun | 145 => 115 | 220 => 116 | 219 => 117 | 217 => 118 | 225 => 119 | 224 => 120 | 267 => 121 | 266 => 122 | 314 => 123 | n => n,fun | 9 => 9 | 4 => 4 | 59 => 173 | 3 => 3 | 5 => 5 | 46 => 143 | 146 => 178 | 51 => 177 | n => n,fun | 1 => 0 | n => n⟩
theorem Tryz.lays145 : Go.Proofs.Lays.n145 Tryz.prog Tryz.lays145_ren := {
 mixed := by kernel_rfl
 f145 := Tryz.func115.trans (congrArg some (by kernel_rfl))
 f217 := Tryz.func118.trans (congrArg some (by kernel_rfl))
 f219 := Tryz.func117.trans (congrArg some (by kernel_rfl))
 f220 := Tryz.func116.trans (congrArg some (by kernel_rfl))
 f224 := Tryz.func120.trans (congrArg some (by kernel_rfl))
 f225 := Tryz.func119.trans (congrArg some (by kernel_rfl))
 f266 := Tryz.func122.trans (congrArg some (by kernel_rfl))
 f267 := Tryz.func121.trans (congrArg some (by kernel_rfl))
 f314 := Tryz.func123.trans (congrArg some (by kernel_rfl))
 t3 := Tryz.underlying3
 a3 := Tryz.isAgg3
 z3 := Tryz.sizeOf3
 v3 := Tryz.zeroValue3
 t4 := Tryz.underlying4
 a4 := Tryz.isAgg4
 z4 := Tryz.sizeOf4
 v4 := Tryz.zeroValue4
 t5 := Tryz.underlying5
 a5 := Tryz.isAgg5
 z5 := Tryz.sizeOf5
 v5 := Tryz.zeroValue5
 t9 := Tryz.underlying9
 a9 := Tryz.isAgg9
 z9 := Tryz.sizeOf9
 v9 := Tryz.zeroValue9
 t46 := Tryz.underlying143
 a46 := Tryz.isAgg143
 z46 := Tryz.sizeOf143
 v46 := Tryz.zeroValue143
 t51 := Tryz.underlying177
 a51 := Tryz.isAgg177
 z51 := Tryz.sizeOf177
 v51 := Tryz.zeroValue177
 t59 := Tryz.underlying173
 a59 := Tryz.isAgg173
 z59 := Tryz.sizeOf173
 v59 := Tryz.zeroValue173
 t146 := Tryz.underlying178
 a146 := Tryz.isAgg178
 z146 := Tryz.sizeOf178
 v146 := Tryz.zeroValue178
 g1 := by kernel_rfl }
open Go.RowKit Go.Lib in
theorem Tryz.strings_Cut (s sep : ByteArray) (m : Int) (w : World) (hs : s.size < 4294967281) (hm : w.cell? ⟨0,0,none⟩ = some (.int .i64 m)) :
  Calls Tryz.prog 115 #[.string s,.string sep] w fun e w' => e = .returned (.tuple #[.string ⟨(Lib.cut s.data.toList sep.data.toList).1.toArray⟩,.string ⟨(Lib.cut s.data.toList sep.data.toList).2.1.toArray⟩,.bool (Lib.cut s.data.toList sep.data.toList).2.2]) /\ ∃ n,w' = w.drewN n := Any.strings_Cut Tryz.lays145 s sep m w hs hm
def Tryz.laysM145_ren : Go.Shelf.Ren := ⟨fun | 145 => 115 | 220 => 116 | 219 => 117 | 217 => 118 | 225 => 119 | 224 => 120 | 267 => 121 | 266 => 122 | 314 => 123 | n => n,fun | 9 => 9 | 4 => 4 | 59 => 173 | 3 => 3 | 5 => 5 | 46 => 143 | 146 => 178 | 51 => 177 | n => n,fun | 1 => 0 | n => n⟩
theorem Tryz.laysM145 : Go.Proofs.LaysM.n145 Tryz.prog Tryz.laysM145_ren := {
 mixed := by kernel_rfl
 f145 := Tryz.func115.trans (congrArg some (by kernel_rfl))
 f217 := Tryz.func118.trans (congrArg some (by kernel_rfl))
 f219 := Tryz.func117.trans (congrArg some (by kernel_rfl))
 f220 := Tryz.func116.trans (congrArg some (by kernel_rfl))
 f224 := Tryz.func120.trans (congrArg some (by kernel_rfl))
 f225 := Tryz.func119.trans (congrArg some (by kernel_rfl))
 f266 := Tryz.func122.trans (congrArg some (by kernel_rfl))
 f267 := Tryz.func121.trans (congrArg some (by kernel_rfl))
 f314 := Tryz.func123.trans (congrArg some (by kernel_rfl))
 t3 := Tryz.underlying3
 a3 := Tryz.isAgg3
 z3 := Tryz.sizeOf3
 v3 := Tryz.zeroValue3
 t4 := Tryz.underlying4
 a4 := Tryz.isAgg4
 z4 := Tryz.sizeOf4
 v4 := Tryz.zeroValue4
 t5 := Tryz.underlying5
 a5 := Tryz.isAgg5
 z5 := Tryz.sizeOf5
 v5 := Tryz.zeroValue5
 t9 := Tryz.underlying9
 a9 := Tryz.isAgg9
 z9 := Tryz.sizeOf9
 v9 := Tryz.zeroValue9
 t46 := Tryz.underlying143
 a46 := Tryz.isAgg143
 z46 := Tryz.sizeOf143
 v46 := Tryz.zeroValue143
 t51 := Tryz.underlying177
 a51 := Tryz.isAgg177
 z51 := Tryz.sizeOf177
 v51 := Tryz.zeroValue177
 t59 := Tryz.underlying173
 a59 := Tryz.isAgg173
 z59 := Tryz.sizeOf173
 v59 := Tryz.zeroValue173
 t146 := Tryz.underlying178
 a146 := Tryz.isAgg178
 z146 := Tryz.sizeOf178
 v146 := Tryz.zeroValue178
 g1 := by kernel_rfl
 i3 := by kernel_rfl
 i4 := by kernel_rfl
 i5 := by kernel_rfl
 i9 := by kernel_rfl
 i46 := by kernel_rfl
 i51 := by kernel_rfl
 i59 := by kernel_rfl
 i146 := by kernel_rfl
 m1 := by kernel_rfl
 s1_3 := fun w h => Go.Proofs.cell_of_shapedOpen_int (zero := #[.int .i64 0]) (t := 3) h (of_decide_eq_true (by kernel_rfl)) (by kernel_rfl) rfl (by kernel_rfl) (by kernel_rfl) Tryz.underlying3 }
end Go.Proofs
