/- Texts that the proof is made of, joined. No condition. -/
import Derived.Test.YtijnimjmimeefaaGreatSK0
import Derived.OpenShut
import Derived.SliceStrings
import Derived.Shelf.Strings.Builder1
import Derived.Shelf.Small.Wraps
import Derived.Shelf.Strings.BuilderF
import Derived.Shelf.Strings.BuilderK
import Derived.Shelf.LaysM
import Derived.Shelf.Strconv.Clone
import Derived.Shelf.Strings.Search1
import Derived.Shelf.Strings.Search2
import Derived.Shelf.Strings.Cut
import Derived.Shelf.Strings.Shaped
import Derived.Shelf.Strings.Prefix
import Derived.Shelf.Slices.Equal
import Derived.Shelf.Slices.Empties2
import Derived.Shelf.Bytes.SlSearch0
import Derived.Ground.SlbCloneProg
import Derived.Shelf.Bytes.SlClone
import Derived.Shelf.Bytes.SlSmallAll
import Derived.Shelf.Bytes.SlEqualAll
import Derived.Shelf.Bytes.Small
import Derived.Test.YtijnimjmimeefaaGreatProg
import Derived.Maps.OwnSet
import Derived.StringKeys
import Derived.Maps.AppendAt
import Derived.Deep.SlicePairs
import Derived.Laws.Bits128
import Derived.Test.YtijnimjmimeefaaGreatRows
import Derived.WalkKit
import Derived.WalkSpells
import Derived.WalkLawsBesides
import Derived.Lib.Hide
set_option linter.unusedVariables false
set_option linter.unusedSimpArgs false
namespace Go.Proofs.YtijnimjmimeefaaGreat
open Go.RowKit
def tx (l : List UInt8) : ByteArray := ⟨l.toArray⟩
theorem tx_size (l : List UInt8) : (tx l).size = l.length := by
 show l.toArray.size = l.length
 simp
theorem tx_sb (s : ByteArray) : tx (sb s) = s := rfl
theorem conv_rd {w : World} {v : Value} {l : List UInt8} (h : Rd w v l) : (convert 26 9 v).run Tryz.prog w = .ok (.string (tx l)) w := by
 obtain ⟨p, cap, rfl, hle, hn, hc⟩ := h
 cases p with
 | none =>
  have h0 := hn rfl
  have hl0 : l = [] := List.eq_nil_of_length_eq_zero (by omega)
  subst hl0
  exact run_convert_bytes_nil w 26 5 Tryz.underlying26 Tryz.underlying5 _ _ 9 Tryz.underlying9
 | some a =>
  exact run_convert_bytes_back w 26 9 5 a cap l Tryz.underlying26 Tryz.underlying5 Tryz.underlying9 (fun j hj => hc a rfl j l[j] (List.getElem?_eq_getElem hj))
theorem conv_zero (w : World) (a : Option Addr) (c : Nat) : (convert 26 9 (.slice a 0 c)).run Tryz.prog w = .ok (.string (tx [])) w := by
 cases a with
 | none => exact run_convert_bytes_nil w 26 5 Tryz.underlying26 Tryz.underlying5 _ _ 9 Tryz.underlying9
 | some a => exact run_convert_bytes_back w 26 9 5 a c [] Tryz.underlying26 Tryz.underlying5 Tryz.underlying9 (fun j hj => by simp at hj)
theorem conv_cut {w : World} {B : Nat} {p : Option Addr} {c : Nat} {bs : List UInt8} (ho : Own w B (.slice p bs.length c) bs) (j a : Nat) (hj : j ≤ bs.length) (hc : ¬ c = j) (ha : a ≤ bs.length - j) (C : Nat) :
  (convert 26 9 (.slice (Option.map (fun x => x.add j) p) a C)).run Tryz.prog w = .ok (.string (tx ((bs.drop j).take a))) w := by
 have hlen : ((bs.drop j).take a).length = a := by rw [List.length_take, List.length_drop]; omega
 rcases ho.2 with ⟨h, h0⟩ | ⟨g, cap, cur, h, _, _, h1, _, _⟩
 ·simp only [Value.slice.injEq] at h
  omega
 ·simp only [Value.slice.injEq] at h
  obtain ⟨rfl, _, rfl⟩ := h
  have hb := run_convert_bytes_back (P := Tryz.prog) w 26 9 5 ((⟨g, 0, none⟩ : Addr).add j) C ((bs.drop j).take a) Tryz.underlying26 Tryz.underlying5 Tryz.underlying9 (fun i hi => by
   have hib : j + i < bs.length := by rw [hlen] at hi; omega
   have hcell := World.ownsRow.cells ho (g := g) rfl (j + i) (u8 bs[j + i]) (by simp [hib])
   have e1 : ((⟨g, 0, none⟩ : Addr).add j).add i = (⟨g, 0, none⟩ : Addr).add (j + i) := by
    unfold Addr.add
    by_cases hj0 : j = 0
    ·subst hj0; simp
    ·by_cases hi0 : i = 0
     ·subst hi0; simp
     ·simp [hj0, hi0]
   rw [e1, hcell]
   simp [u8])
  rw [hlen] at hb
  exact hb
def textR (bs : List UInt8) (k e m : Nat) : List UInt8 × Nat × Nat :=
 let r := lookR bs k e m
 if r.2.2 = 0 then
  if bs.length - (k + r.2.1) < r.1 then ([], k, 20) else ((bs.drop (k + r.2.1)).take r.1, k + r.2.1 + r.1, 0)
 else ([], k, r.2.2)
theorem ret_str {a b : ByteArray} (h : a = b) : Ending.returned (.string a) = .returned (.string b) := by rw [h]
set_option maxHeartbeats 400000 in
set_option maxRecDepth 100000 in
theorem rtext_any (B rb : Nat) (bs : List UInt8) (k e : Nat) (most : Int) (w : World) (h : Rdr w B rb bs k e) (he : e < 100) (hl : bs.length ≤ 40000000) (h1 : -9223372036854775808 ≤ most) (h2 : most ≤ 9223372036854775807) :
  Calls Tryz.prog 96 #[.pointer (some ⟨rb, 0, none⟩), .int .i64 most] w fun r w' => ∃ (l : List UInt8) (k' e' : Nat), Hid (textR bs k e (cnt most) = (l, k', e')) ∧ r = .returned (.string (tx l)) ∧ Gone w w' B rb bs k' e' := by
 have hu := toNat_u64 h2
 have hk := h.2.1
 obtain ⟨sl, ho, hn, hlt, c0, c1, c2, hf⟩ := h.cells
 clear hf
 obtain ⟨p, c, rfl, hc, _⟩ := ho.len
 have hz : ∀ (w : World) (a : Option Addr) (c : Nat), (convert 26 9 (.slice a 0 c)).run Tryz.prog w = .ok (.string (tx [])) w := conv_zero
 have hzs : (tx []).size = 0 := tx_size []
 go_enter Tryz.func96, Tryz.ntmps96
 go_wp2_with fail
 refine (count_any most _ h1 h2).mono ?_
 rintro x w' ⟨rfl, rfl⟩
 go_wp2_with fail
 refine (look_tup B rb bs k e _ _ h hu).mono ?_
 rintro r w1 ⟨a, s, x, n, HL, rfl, rfl⟩
 have hf := lookR_facts bs k e _ a s x hk he HL.out
 have ha : a ≤ 9223372036854775807 := Nat.le_trans hf.1 (by unfold cnt; omega)
 have hs9 : s ≤ 9 := by have := hf.2; omega
 have hx1 := hf.2.2.2
 have hks : k + s ≤ bs.length := by have := hf.2; omega
 by_cases hx0 : x = 0
 ·subst hx0
  have HF := Lib.hid hf
  clear hf
  by_cases hshort : bs.length - (k + s) < a
  ·have HS := Lib.hid hshort
   have hfin : textR bs k e (cnt most) = ([], k, 20) := by unfold textR; rw [HL.out]; simp [hshort]
   have HT := Lib.hid hfin
   clear hfin
   by_cases hck : c = k + s
   all_goals
    go_wp2
    go_quiet (fail)
    go_wp2_with fail
    refine (take_any B rb bs k e s 20 _ (h.drewN _) (by omega) (fun h0 => by omega) (by omega) (by omega)).mono ?_
    rintro r w2 ⟨rfl, hg⟩
    have HG := Lib.hid hg
    clear hg
    go_wp2
    go_ret
    exact ⟨[], k, 20, HT, rfl, (show Gone (w.drewN _) w2 B rb bs k 20 from HG.out).drewN⟩
  ·have HS := Lib.hid hshort
   have he0 : e = 0 := lookR_err HL.out rfl
   have hfin : textR bs k e (cnt most) = ((bs.drop (k + s)).take a, k + s + a, 0) := by unfold textR; rw [HL.out]; simp [hshort]
   have HT := Lib.hid hfin
   clear hfin
   subst he0
   by_cases hck : c = k + s
   ·have ha0 : a = 0 := by omega
    subst ha0
    go_wp2
    go_quiet (fail)
    go_wp2_with fail
    refine (take_any B rb bs k 0 s 0 _ (h.drewN _) (by omega) (fun _ => hks) (by omega) (by omega)).mono ?_
    rintro r w2 ⟨rfl, hg⟩
    have HG := Lib.hid hg
    clear hg
    go_wp2
    go_ret
    exact ⟨[], k + s, 0, Lib.hid (by have := HT.out; simpa using this), rfl, (show Gone (w.drewN _) w2 B rb bs (k + s) 0 from HG.out).drewN⟩
   ·have hcv : ∀ (q C : Nat), (convert 26 9 (.slice (Option.map ((fun x => x) ∘ fun x => x.add (k + s)) p) a C)).run Tryz.prog (w.drewN q) = .ok (.string (tx ((bs.drop (k + s)).take a))) (w.drewN q) :=
     fun q C => conv_cut (w := w.drewN q) ho (k + s) a hks hck (by omega) C
    have hts : (tx ((bs.drop (k + s)).take a)).size = a := by rw [tx_size, List.length_take, List.length_drop]; omega
    go_wp2
    go_quiet (fail)
    go_wp2_with fail
    have e2 : ((s : Int) + (a : Int)) = ((s + a : Nat) : Int) := by omega
    rw [e2]
    refine (take_any B rb bs k 0 (s + a) 0 _ (h.drewN _) (by omega) (fun _ => by omega) (by omega) (by omega)).mono ?_
    rintro r w2 ⟨rfl, hg⟩
    have HG := Lib.hid hg
    clear hg hcv hts e2
    go_wp2
    go_ret
    exact ⟨_, k + s + a, 0, HT, rfl, by rw [Nat.add_assoc]; exact (show Gone (w.drewN _) w2 B rb bs (k + (s + a)) 0 from HG.out).drewN⟩
 ·obtain ⟨rfl, rfl⟩ := hf.2.2.1 hx0
  have hxb : ((x : Int) == 0) = false := beq_eq_false_iff_ne.2 (by omega)
  have hfin : textR bs k e (cnt most) = ([], k, x) := by unfold textR; rw [HL.out]; simp [hx0]
  have HT := Lib.hid hfin
  clear hfin hf
  by_cases hck : c = k
  all_goals
   go_wp2
   go_quiet (fail)
   go_wp2_with fail
   refine (take_any B rb bs k e 0 x _ (h.drewN _) hx1 (fun h0 => absurd h0 hx0) (by omega) (by omega)).mono ?_
   rintro r w2 ⟨rfl, hg⟩
   rw [if_neg hx0] at hg
   have HG := Lib.hid hg.drewN
   clear hg
   go_wp2
   go_ret
   exact ⟨[], k, x, HT, rfl, HG.out⟩
end Go.Proofs.YtijnimjmimeefaaGreat
namespace Go.Proofs.YtijnimjmimeefaaGreat
open Go.RowKit
theorem rd_nil (w : World) : Rd w (.slice none 0 0) [] := ⟨none, 0, rfl, Nat.le_refl _, fun _ => rfl, fun a ha => by cases ha⟩
theorem rdI_new1 (w : World) (z : Int) (t : TypeId) (h1 : -9223372036854775808 ≤ z) (h2 : z ≤ 9223372036854775807) : RdI (w.alloc (.cells #[.int .i64 z] t)) (.slice (some ⟨w.heap.size, 0, none⟩) 1 1) [z] := by
 refine ⟨_, 1, rfl, fun a ha _ => (by cases ha; rfl), (fun h => by cases h), fun i x hx => ?_, fun a ha i x hx => ?_⟩
 ·match i, hx with
  | 0, hx => simp at hx; subst hx; exact ⟨h1, h2⟩
 ·cases ha
  match i, hx with
  | 0, hx => simp at hx; subst hx; simp
def kb : List UInt8 := [172, 2, 3, 2, 97, 98, 1, 2, 128]
theorem Rdr.below {w w' : World} {B C rb : Nat} {bs : List UInt8} {k e : Nat} (h : Rdr w B rb bs k e) (hb : Below C w w') (hC : w.heap.size ≤ C) : Rdr w' B rb bs k e := by
 obtain ⟨h1, h2, sl, hx, ho, hn⟩ := h
 have hlt := (Array.getElem?_eq_some_iff.1 hx).1
 exact ⟨h1, h2, sl, by rw [hb.block rb (by omega)]; exact hx, ho.below hb (fun g hg => Nat.lt_of_lt_of_le (ho.lt g hg).2 hC), hn⟩
theorem Gone.below {w w' : World} {B rb : Nat} {bs : List UInt8} {k e C : Nat} (h : Gone w w' B rb bs k e) (hC : C ≤ w.heap.size) (hr : C ≤ rb) : Below C w w' :=
 (Below.refl _ _).grown h.2 hC (fun k hk => by cases hk; exact hr)
theorem rnum_at {B rb : Nat} {bs : List UInt8} {k e v k' e' : Nat} {most : Int} {w : World} (hr : numR bs k e (cnt most) = (v, k', e')) (h : Rdr w B rb bs k e) (he : e < 100) (hl : bs.length ≤ 40000000) (h1 : -9223372036854775808 ≤ most) (h2 : most ≤ 9223372036854775807) :
  Calls Tryz.prog 94 #[.pointer (some ⟨rb, 0, none⟩), .int .i64 most] w fun r w' => r = .returned (.int .i64 v) ∧ Gone w w' B rb bs k' e' := by
 refine (rnum_any B rb bs k e most w h he hl h1 h2).mono fun r w' ⟨a, b, c, H, hx, hg⟩ => ?_
 have := H.out
 rw [hr] at this
 simp only [Prod.mk.injEq] at this
 obtain ⟨rfl, rfl, rfl⟩ := this
 exact ⟨hx, hg⟩
theorem rint_at {B rb : Nat} {bs : List UInt8} {k e v k' e' : Nat} {w : World} (hr : numR bs k e 4294967295 = (v, k', e')) (h : Rdr w B rb bs k e) (he : e < 100) (hl : bs.length ≤ 40000000) :
  Calls Tryz.prog 183 #[.pointer (some ⟨rb, 0, none⟩)] w fun r w' => r = .returned (.int .i32 (unfoldN v)) ∧ Gone w w' B rb bs k' e' := by
 refine (rint_any B rb bs k e w h he hl).mono fun r w' ⟨a, b, c, H, hx, hg⟩ => ?_
 have := H.out
 rw [hr] at this
 simp only [Prod.mk.injEq] at this
 obtain ⟨rfl, rfl, rfl⟩ := this
 exact ⟨hx, hg⟩
theorem rtext_at {B rb : Nat} {bs v : List UInt8} {k e k' e' : Nat} {most : Int} {w : World} (hr : textR bs k e (cnt most) = (v, k', e')) (h : Rdr w B rb bs k e) (he : e < 100) (hl : bs.length ≤ 40000000) (h1 : -9223372036854775808 ≤ most) (h2 : most ≤ 9223372036854775807) :
  Calls Tryz.prog 96 #[.pointer (some ⟨rb, 0, none⟩), .int .i64 most] w fun r w' => r = .returned (.string (tx v)) ∧ Gone w w' B rb bs k' e' := by
 refine (rtext_any B rb bs k e most w h he hl h1 h2).mono fun r w' ⟨a, b, c, H, hx, hg⟩ => ?_
 have := H.out
 rw [hr] at this
 simp only [Prod.mk.injEq] at this
 obtain ⟨rfl, rfl, rfl⟩ := this
 exact ⟨hx, hg⟩
theorem rtwo_at {B rb : Nat} {bs : List UInt8} {k e v k' e' : Nat} {most : Int} {w : World} (hr : rtwoR bs k e (cnt most) = (v, k', e')) (h : Rdr w B rb bs k e) (he : e < 100) (hl : bs.length ≤ 40000000) (h1 : -9223372036854775808 ≤ most) (h2 : most ≤ 9223372036854775807) :
  Calls Tryz.prog 140 #[.pointer (some ⟨rb, 0, none⟩), .int .i64 most] w fun r w' => r = .returned (.int .i64 v) ∧ Gone w w' B rb bs k' e' := by
 refine (rtwo_any B rb bs k e most w h he hl h1 h2).mono fun r w' ⟨a, b, c, H, hx, hg⟩ => ?_
 have := H.out
 rw [hr] at this
 simp only [Prod.mk.injEq] at this
 obtain ⟨rfl, rfl, rfl⟩ := this
 exact ⟨hx, hg⟩
end Go.Proofs.YtijnimjmimeefaaGreat
namespace Go.Proofs.YtijnimjmimeefaaGreat
open Go.RowKit
theorem goOn_toNat (u : Nat) : (goOn u).toNat = u % 128 + 128 := by
 unfold goOn
 rw [UInt8.toNat_ofNat']
 omega
theorem small_toNat {u : Nat} (h : u < 128) : (UInt8.ofNat u).toNat = u := by
 rw [UInt8.toNat_ofNat']
 omega
theorem pow_next (u i : Nat) : u % 128 * 2 ^ (7 * i) + u / 128 * 2 ^ (7 * (i + 1)) = u * 2 ^ (7 * i) := by
 have e : 2 ^ (7 * (i + 1)) = 128 * 2 ^ (7 * i) := by rw [show 7 * (i + 1) = 7 + 7 * i from by omega, Nat.pow_add]
 rw [e, ← Nat.mul_assoc, ← Nat.add_mul]
 congr 1
 omega
theorem dec_nb (m : Nat) (l : List UInt8) : ∀ (f u i v : Nat), u < f → (i = 0 ∨ 0 < u) → i + (nb u).length ≤ 9 →
  dec m (nb u ++ l) i v = if m < v + u * 2 ^ (7 * i) then (0, 0, 22) else (v + u * 2 ^ (7 * i), i + (nb u).length, 0)
 | 0, _, _, _, h, _, _ => by omega
 | f + 1, u, i, v, hf, h0, hl => by
  by_cases hu : u < 128
  ·rw [nb_small hu] at hl ⊢
   simp only [List.length_singleton] at hl
   rw [List.cons_append, List.nil_append, dec, if_neg (by omega), small_toNat hu, if_pos hu]
   unfold wholeR
   rw [if_neg (by omega)]
   rfl
  ·rw [nb_big hu] at hl ⊢
   rw [List.length_cons] at hl
   have hg : (UInt8.ofNat (u % 128 + 128)).toNat = u % 128 + 128 := goOn_toNat u
   rw [List.cons_append, dec, if_neg (by have := nb_pos (u / 128); omega), hg, if_neg (by omega)]
   rw [dec_nb m l f (u / 128) (i + 1) _ (by omega) (by omega) (by omega)]
   rw [show (u % 128 + 128) % 128 = u % 128 from by omega, Nat.add_assoc, pow_next, List.length_cons, show i + 1 + (nb (u / 128)).length = i + ((nb (u / 128)).length + 1) from by omega]
theorem nb_len9 {u : Nat} (h : u ≤ 9223372036854775807) : (nb u).length ≤ 9 :=
 nb_len 8 u (Nat.lt_of_le_of_lt h (by decide))
theorem cnt_nat (M : Nat) : cnt (M : Int) = M := by unfold cnt; omega
theorem cnt_pred (M : Nat) : cnt ((M : Int) - 1) = M - 1 := by unfold cnt; omega
theorem nums_one (z : Int) : nums [z] = nb (cnt z) := by
 show nb (cnt z) ++ [] = _
 rw [List.append_nil]
theorem Rdr.lt {w : World} {B rb : Nat} {bs : List UInt8} {k e : Nat} (h : Rdr w B rb bs k e) : rb < w.heap.size := by
 obtain ⟨_, _, sl, hx, _⟩ := h
 exact (Array.getElem?_eq_some_iff.1 hx).1
end Go.Proofs.YtijnimjmimeefaaGreat
namespace Go.Proofs.YtijnimjmimeefaaGreat
open Go.RowKit
theorem add_add (x : Addr) (i : Nat) (h : x.spot = none) : x.add i = ⟨x.block, x.off + i, none⟩ := by
 obtain ⟨b, o, s⟩ := x
 simp only at h
 subst h
 unfold Addr.add
 split <;> simp_all
theorem Own.lit {w : World} {B : Nat} (vals : Array Value) (l : List UInt8) (h : vals.toList = l.map u8) (hB : B ≤ w.heap.size) (hl : l.length ≤ 100000000) :
  Own (w.alloc (.cells vals 5)) B (.slice (some ⟨w.heap.size, 0, none⟩) l.length l.length) l := by
 have hs : vals.size = l.length := by rw [← Array.length_toList, h, List.length_map]
 refine ⟨by simp, .inr ⟨w.heap.size, l.length, vals, rfl, hB, heap_alloc_new w _, Nat.le_refl _, by unfold maxLen; omega, by omega, ?_⟩⟩
 rw [h, Nat.mul_one, List.take_of_length_le (by simp)]
end Go.Proofs.YtijnimjmimeefaaGreat
namespace Go.Proofs.YtijnimjmimeefaaGreat
open Go.RowKit
def RowAt (w : World) (b off len : Nat) (V : Nat → Value) : Prop := b < w.heap.size ∧ ∀ i, i < len → w.cell? ⟨b, off + i, none⟩ = some (V i)
theorem RowAt.below {w w' : World} {b off len i : Nat} {V : Nat → Value} (h : RowAt w b off len V) (hb : Below w.heap.size w w') (hi : i < len) : w'.cell? ⟨b, off + i, none⟩ = some (V i) :=
 (hb.cell (p := ⟨b, off + i, none⟩) h.1).trans (h.2 i hi)
end Go.Proofs.YtijnimjmimeefaaGreat
namespace Go.Proofs
open Go.Shelf
def Tryz.lays169_ren : Go.Shelf.Ren := ⟨fun | 169 => 199 | n => n, fun | 70 => 244 | 9 => 9 | 0 => 0 | 72 => 246 | 37 => 26 | 127 => 254 | 3 => 3 | 5 => 5 | n => n, fun | n => n⟩
theorem Tryz.lays169 : Go.Proofs.Lays.n169 Tryz.prog Tryz.lays169_ren := {
 mixed := by kernel_rfl
 f169 := Tryz.func199.trans (congrArg some (by kernel_rfl))
 t0 := Tryz.underlying0
 a0 := Tryz.isAgg0
 z0 := Tryz.sizeOf0
 v0 := Tryz.zeroValue0
 t3 := Tryz.underlying3
 a3 := Tryz.isAgg3
 z3 := Tryz.sizeOf3
 v3 := Tryz.zeroValue3
 t9 := Tryz.underlying9
 a9 := Tryz.isAgg9
 z9 := Tryz.sizeOf9
 v9 := Tryz.zeroValue9
 t37 := Tryz.underlying26
 a37 := Tryz.isAgg26
 z37 := Tryz.sizeOf26
 v37 := Tryz.zeroValue26
 t70 := Tryz.underlying244
 a70 := Tryz.isAgg244
 z70 := Tryz.sizeOf244
 v70 := Tryz.zeroValue244
 t72 := Tryz.underlying246
 a72 := Tryz.isAgg246
 z72 := Tryz.sizeOf246
 v72 := Tryz.zeroValue246
 t127 := Tryz.underlying254
 a127 := Tryz.isAgg254
 z127 := Tryz.sizeOf254
 v127 := Tryz.zeroValue254 }
theorem Tryz.Builder_Extra_169 : Builder.Extra Tryz.prog Tryz.lays169_ren := {
 sizeBuilder := by kernel_rfl
 liesBuilder := by kernel_rfl
 t5 := Tryz.underlying5
 a5 := Tryz.isAgg5
 z5 := Tryz.sizeOf5
 v5 := Tryz.zeroValue5
 infoByte := by kernel_rfl
 cellsByte := by kernel_rfl
 sizeByte := by kernel_rfl
 neB5 := by decide }
open Go.RowKit in
theorem Tryz.Builder_String_any (B b : Nat) (l : List UInt8) (w : World) (h : Lib.IsBuilder 246 5 B b (Lib.byteCells l) w) (hBw : B ≤ w.heap.size) :
  Calls Tryz.prog 199 #[.pointer (some ⟨b, 0, none⟩)] w fun e w' => e = .returned (.string ⟨l.toArray⟩) ∧ Below B w w' := Any.Builder_String_any Tryz.lays169 Tryz.Builder_Extra_169 B b l w h hBw
def Tryz.lays103_ren : Go.Shelf.Ren := ⟨fun | 103 => 179 | 210 => 204 | 206 => 213 | n => n, fun | 9 => 9 | 4 => 4 | 24 => 200 | 3 => 3 | n => n, fun | n => n⟩
theorem Tryz.lays103 : Go.Proofs.Lays.n103 Tryz.prog Tryz.lays103_ren := {
 mixed := by kernel_rfl
 f103 := Tryz.func179.trans (congrArg some (by kernel_rfl))
 f206 := Tryz.func213.trans (congrArg some (by kernel_rfl))
 f210 := Tryz.func204.trans (congrArg some (by kernel_rfl))
 t3 := Tryz.underlying3
 a3 := Tryz.isAgg3
 z3 := Tryz.sizeOf3
 v3 := Tryz.zeroValue3
 t4 := Tryz.underlying4
 a4 := Tryz.isAgg4
 z4 := Tryz.sizeOf4
 v4 := Tryz.zeroValue4
 t9 := Tryz.underlying9
 a9 := Tryz.isAgg9
 z9 := Tryz.sizeOf9
 v9 := Tryz.zeroValue9
 t24 := Tryz.underlying200
 a24 := Tryz.isAgg200
 z24 := Tryz.sizeOf200
 v24 := Tryz.zeroValue200 }
open Go.RowKit in
theorem Tryz.strings_CutPrefix (s p : ByteArray) (w : World) :
  Calls Tryz.prog 179 #[.string s, .string p] w fun e w' => e = .returned (.tuple #[.string ⟨(Lib.trimPrefix s.data.toList p.data.toList).toArray⟩, .bool (Lib.hasPrefix s.data.toList p.data.toList)]) ∧ w' = w := Any.strings_CutPrefix Tryz.lays103 s p w
def Tryz.laysM316_ren : Go.Shelf.Ren := ⟨fun | 316 => 209 | n => n, fun | 9 => 9 | 3 => 3 | 4 => 4 | 37 => 26 | 0 => 0 | 127 => 254 | 5 => 5 | n => n, fun | n => n⟩
theorem Tryz.laysM316 : Go.Proofs.LaysM.n316 Tryz.prog Tryz.laysM316_ren := {
 mixed := by kernel_rfl
 f316 := Tryz.func209.trans (congrArg some (by kernel_rfl))
 t0 := Tryz.underlying0
 a0 := Tryz.isAgg0
 z0 := Tryz.sizeOf0
 v0 := Tryz.zeroValue0
 t3 := Tryz.underlying3
 a3 := Tryz.isAgg3
 z3 := Tryz.sizeOf3
 v3 := Tryz.zeroValue3
 t4 := Tryz.underlying4
 a4 := Tryz.isAgg4
 z4 := Tryz.sizeOf4
 v4 := Tryz.zeroValue4
 t9 := Tryz.underlying9
 a9 := Tryz.isAgg9
 z9 := Tryz.sizeOf9
 v9 := Tryz.zeroValue9
 t37 := Tryz.underlying26
 a37 := Tryz.isAgg26
 z37 := Tryz.sizeOf26
 v37 := Tryz.zeroValue26
 t127 := Tryz.underlying254
 a127 := Tryz.isAgg254
 z127 := Tryz.sizeOf254
 v127 := Tryz.zeroValue254
 t5 := Tryz.underlying5
 a5 := Tryz.isAgg5
 z5 := Tryz.sizeOf5
 v5 := Tryz.zeroValue5
 i0 := by kernel_rfl
 i3 := by kernel_rfl
 i4 := by kernel_rfl
 i5 := by kernel_rfl
 i9 := by kernel_rfl
 i37 := by kernel_rfl
 i127 := by kernel_rfl }
open Go.RowKit in
theorem Tryz.stringslite_Clone (s : ByteArray) (w : World) (hlim : s.size ≤ 281474976710656) :
  Calls Tryz.prog 209 #[.string s] w fun e w' => e = .returned (.string s) ∧ Below w.heap.size w w' := Any.stringslite_Clone Tryz.laysM316 s w hlim
def Tryz.lays145_ren : Go.Shelf.Ren := ⟨fun | 145 => 212 | 220 => 216 | 219 => 217 | 217 => 218 | 225 => 219 | 224 => 220 | 267 => 221 | 266 => 222 | 314 => 223 | n => n, fun | 9 => 9 | 4 => 4 | 59 => 256 | 3 => 3 | 5 => 5 | 46 => 158 | 146 => 264 | 51 => 263 | n => n, fun | 1 => 0 | n => n⟩
theorem Tryz.lays145 : Go.Proofs.Lays.n145 Tryz.prog Tryz.lays145_ren := {
 mixed := by kernel_rfl
 f145 := Tryz.func212.trans (congrArg some (by kernel_rfl))
 f217 := Tryz.func218.trans (congrArg some (by kernel_rfl))
 f219 := Tryz.func217.trans (congrArg some (by kernel_rfl))
 f220 := Tryz.func216.trans (congrArg some (by kernel_rfl))
 f224 := Tryz.func220.trans (congrArg some (by kernel_rfl))
 f225 := Tryz.func219.trans (congrArg some (by kernel_rfl))
 f266 := Tryz.func222.trans (congrArg some (by kernel_rfl))
 f267 := Tryz.func221.trans (congrArg some (by kernel_rfl))
 f314 := Tryz.func223.trans (congrArg some (by kernel_rfl))
 t3 := Tryz.underlying3
 a3 := Tryz.isAgg3
 z3 := Tryz.sizeOf3
 v3 := Tryz.zeroValue3
 t4 := Tryz.underlying4
 a4 := Tryz.isAgg4
 z4 := Tryz.sizeOf4
 v4 := Tryz.zeroValue4
 t5 := Tryz.underlying5
 a5 := Tryz.isAgg5
 z5 := Tryz.sizeOf5
 v5 := Tryz.zeroValue5
 t9 := Tryz.underlying9
 a9 := Tryz.isAgg9
 z9 := Tryz.sizeOf9
 v9 := Tryz.zeroValue9
 t46 := Tryz.underlying158
 a46 := Tryz.isAgg158
 z46 := Tryz.sizeOf158
 v46 := Tryz.zeroValue158
 t51 := Tryz.underlying263
 a51 := Tryz.isAgg263
 z51 := Tryz.sizeOf263
 v51 := Tryz.zeroValue263
 t59 := Tryz.underlying256
 a59 := Tryz.isAgg256
 z59 := Tryz.sizeOf256
 v59 := Tryz.zeroValue256
 t146 := Tryz.underlying264
 a146 := Tryz.isAgg264
 z146 := Tryz.sizeOf264
 v146 := Tryz.zeroValue264
 g1 := by kernel_rfl }
open Go.RowKit Go.Lib in
theorem Tryz.strings_Cut (s sep : ByteArray) (m : Int) (w : World) (hs : s.size < 4294967281) (hm : w.cell? ⟨0, 0, none⟩ = some (.int .i64 m)) :
  Calls Tryz.prog 212 #[.string s, .string sep] w fun e w' => e = .returned (.tuple #[.string ⟨(Lib.cut s.data.toList sep.data.toList).1.toArray⟩, .string ⟨(Lib.cut s.data.toList sep.data.toList).2.1.toArray⟩, .bool (Lib.cut s.data.toList sep.data.toList).2.2]) ∧ ∃ n, w' = w.drewN n := Any.strings_Cut Tryz.lays145 s sep m w hs hm
def Tryz.laysM145_ren : Go.Shelf.Ren := ⟨fun | 145 => 212 | 220 => 216 | 219 => 217 | 217 => 218 | 225 => 219 | 224 => 220 | 267 => 221 | 266 => 222 | 314 => 223 | n => n, fun | 9 => 9 | 4 => 4 | 59 => 256 | 3 => 3 | 5 => 5 | 46 => 158 | 146 => 264 | 51 => 263 | n => n, fun | 1 => 0 | n => n⟩
theorem Tryz.laysM145 : Go.Proofs.LaysM.n145 Tryz.prog Tryz.laysM145_ren := {
 mixed := by kernel_rfl
 f145 := Tryz.func212.trans (congrArg some (by kernel_rfl))
 f217 := Tryz.func218.trans (congrArg some (by kernel_rfl))
 f219 := Tryz.func217.trans (congrArg some (by kernel_rfl))
 f220 := Tryz.func216.trans (congrArg some (by kernel_rfl))
 f224 := Tryz.func220.trans (congrArg some (by kernel_rfl))
 f225 := Tryz.func219.trans (congrArg some (by kernel_rfl))
 f266 := Tryz.func222.trans (congrArg some (by kernel_rfl))
 f267 := Tryz.func221.trans (congrArg some (by kernel_rfl))
 f314 := Tryz.func223.trans (congrArg some (by kernel_rfl))
 t3 := Tryz.underlying3
 a3 := Tryz.isAgg3
 z3 := Tryz.sizeOf3
 v3 := Tryz.zeroValue3
 t4 := Tryz.underlying4
 a4 := Tryz.isAgg4
 z4 := Tryz.sizeOf4
 v4 := Tryz.zeroValue4
 t5 := Tryz.underlying5
 a5 := Tryz.isAgg5
 z5 := Tryz.sizeOf5
 v5 := Tryz.zeroValue5
 t9 := Tryz.underlying9
 a9 := Tryz.isAgg9
 z9 := Tryz.sizeOf9
 v9 := Tryz.zeroValue9
 t46 := Tryz.underlying158
 a46 := Tryz.isAgg158
 z46 := Tryz.sizeOf158
 v46 := Tryz.zeroValue158
 t51 := Tryz.underlying263
 a51 := Tryz.isAgg263
 z51 := Tryz.sizeOf263
 v51 := Tryz.zeroValue263
 t59 := Tryz.underlying256
 a59 := Tryz.isAgg256
 z59 := Tryz.sizeOf256
 v59 := Tryz.zeroValue256
 t146 := Tryz.underlying264
 a146 := Tryz.isAgg264
 z146 := Tryz.sizeOf264
 v146 := Tryz.zeroValue264
 g1 := by kernel_rfl
 i3 := by kernel_rfl
 i4 := by kernel_rfl
 i5 := by kernel_rfl
 i9 := by kernel_rfl
 i46 := by kernel_rfl
 i51 := by kernel_rfl
 i59 := by kernel_rfl
 i146 := by kernel_rfl
 m1 := by kernel_rfl
 s1_3 := fun w h => Go.Proofs.cell_of_shapedOpen_int (zero := #[.int .i64 0]) (t := 3) h (of_decide_eq_true (by kernel_rfl)) (by kernel_rfl) rfl (by kernel_rfl) (by kernel_rfl) Tryz.underlying3 }
end Go.Proofs
namespace Go.Proofs.YtijnimjmimeefaaGreat
open Go.RowKit Go.Maps
def Kpt (S : List Nat) (w w' : World) : Prop := Below 0 w w' ∧ ∀ g, g < w.heap.size → g ∉ S → w'.heap[g]? = w.heap[g]?
theorem Kpt.size {S : List Nat} {w w' : World} (h : Kpt S w w') : w.heap.size ≤ w'.heap.size := h.1.size
theorem Kpt.refl (S : List Nat) (w : World) : Kpt S w w := ⟨Below.refl _ _, fun _ _ _ => rfl⟩
theorem Kpt.trans {S S' : List Nat} {a b c : World} (h : Kpt S a b) (k : Kpt S' b c) (hs : ∀ x ∈ S', x ∈ S ∨ a.heap.size ≤ x) : Kpt S a c :=
 ⟨h.1.trans k.1, fun g hg hn => (k.2 g (Nat.lt_of_lt_of_le hg h.size) (fun hx => by
  rcases hs g hx with h1 | h1
  ·exact hn h1
  ·omega)).trans (h.2 g hg hn)⟩
theorem Kpt.mono {S S' : List Nat} {a b : World} (h : Kpt S a b) (hs : ∀ x ∈ S, x < a.heap.size → x ∈ S') : Kpt S' a b :=
 ⟨h.1, fun g hg hn => h.2 g hg (fun hx => hn (hs g hx hg))⟩
theorem Kpt.of_below {S : List Nat} {w w' : World} (h : Below w.heap.size w w') : Kpt S w w' := ⟨h.mono (Nat.zero_le _), fun g hg _ => h.block g hg⟩
theorem Kpt.of_grown {S : List Nat} {w w' : World} {r : Option Nat} (h : w.grownBy w' r) (hr : ∀ g, r = some g → g ∈ S ∨ w.heap.size ≤ g) : Kpt S w w' :=
 ⟨⟨h.os, h.tape, h.output, h.size, fun k hk => absurd hk (Nat.not_lt_zero k)⟩, fun g hg hn => h.block g hg (fun e => by
  rcases hr g e.symm with h1 | h1
  ·exact hn h1
  ·omega)⟩
theorem Kpt.alloc (S : List Nat) (w : World) (o : Obj) : Kpt S w (w.alloc o) := .of_grown (World.grownBy_alloc w o none) (fun g h => by cases h)
theorem Kpt.drewN (S : List Nat) (w : World) (n : Nat) : Kpt S w (w.drewN n) := .of_grown (grown_drewN w n none) (fun g h => by cases h)
theorem Kpt.drew {S : List Nat} {a w : World} (h : Kpt S a w) : Kpt S a w.drew := ⟨h.1.drew, h.2⟩
theorem Kpt.set (S : List Nat) (w : World) (b j : Nat) (u : Value) (h : b ∈ S) : Kpt S w (w.setCell ⟨b, j, none⟩ u) := .of_grown (grown_set w b j u) (fun g e => by cases e; exact .inl h)
theorem Kpt.gone {S : List Nat} {w w' : World} {B rb : Nat} {bs : List UInt8} {k e : Nat} (h : Gone w w' B rb bs k e) (hr : rb ∈ S) : Kpt S w w' := .of_grown h.2 (fun g e => by cases e; exact .inl hr)
theorem Kpt.below {S : List Nat} {w w' : World} {B : Nat} (h : Kpt S w w') (hS : ∀ x ∈ S, B ≤ x) (hB : B ≤ w.heap.size) : Below B w w' :=
 ⟨h.1.os, h.1.tape, h.1.output, h.1.size, fun k hk => h.2 k (Nat.lt_of_lt_of_le hk hB) (fun hx => by have := hS k hx; omega)⟩
theorem row_kpt {w w' : World} {B n sz : Nat} {e : TypeId} {v : Value} {xs : List Value} {S : List Nat} (h : w.ownsRow B e sz v n xs) (hk : Kpt S w w') (hS : ∀ g, v.ownBlock = some g → g ∉ S) : w'.ownsRow B e sz v n xs := by
 refine ⟨h.1, ?_⟩
 rcases h.2 with hn | ⟨g, cap, cur, rfl, hb, hgg, rest⟩
 ·exact .inl hn
 ·refine .inr ⟨g, cap, cur, rfl, hb, ?_, rest⟩
  rw [hk.2 g (Array.getElem?_eq_some_iff.1 hgg).1 (hS g rfl)]
  exact hgg
theorem Own.kpt {w w' : World} {B : Nat} {v : Value} {l : List UInt8} {S : List Nat} (h : Own w B v l) (hk : Kpt S w w') (hS : ∀ g, v.ownBlock = some g → g ∉ S) : Own w' B v l := row_kpt h hk hS
theorem Rdr.kpt {w w' : World} {B rb : Nat} {bs : List UInt8} {k e : Nat} {S : List Nat} (h : Rdr w B rb bs k e) (hk : Kpt S w w') (hS : ∀ g, B ≤ g → g ≤ rb → g ∉ S) : Rdr w' B rb bs k e := by
 obtain ⟨h1, h2, sl, hx, ho, hn⟩ := h
 have hlt := (Array.getElem?_eq_some_iff.1 hx).1
 refine ⟨h1, h2, sl, ?_, ho.kpt hk (fun g hg => hS g (ho.lt g hg).1 (Nat.le_of_lt (hn g hg))), hn⟩
 rw [hk.2 rb hlt (hS rb h1 (Nat.le_refl _))]
 exact hx
theorem Rd.kpt {w w' : World} {v : Value} {l : List UInt8} {S : List Nat} (h : Rd w v l) (hk : Kpt S w w') (hv : l = [] ∨ ∀ g, v.ownBlock = some g → g < w.heap.size ∧ g ∉ S) : Rd w' v l := by
 obtain ⟨p, cap, rfl, h1, h2, h3⟩ := h
 refine ⟨p, cap, rfl, h1, h2, fun a ha i x hx => ?_⟩
 rcases hv with rfl | hv
 ·simp at hx
 ·have := hv a.block (by rw [ha]; rfl)
  have hb := hk.2 a.block this.1 this.2
  rw [World.cell?_of_block (w := w) (a := a.add i) (by rw [add_block]; exact hb)]
  exact h3 a ha i x hx
theorem Tryz.infoS : (Tryz.prog.info? 9).map (fun i => (i.zero, i.size, i.bytes)) = some (some (.string ⟨#[]⟩), 1, 16) := by kernel_rfl
def OwnS (w : World) (B : Nat) (v : Value) (L : List ByteArray) : Prop := w.ownsRow B 9 1 v L.length (L.map Value.string)
theorem strs_one (L : List ByteArray) : ∀ u ∈ L.map Value.string, u.oneCell' = true := by
 intro u hu
 obtain ⟨_, _, rfl⟩ := List.mem_map.1 hu
 rfl
theorem OwnS.nil (w : World) (B : Nat) : OwnS w B (.slice none 0 0) [] := World.ownsRow_nil _ _ _ _
theorem OwnS.alloc {w : World} {B : Nat} {v : Value} {L : List ByteArray} (h : OwnS w B v L) (o : Obj) : OwnS (w.alloc o) B v L := World.ownsRow.alloc h o
theorem OwnS.lt {w : World} {B : Nat} {v : Value} {L : List ByteArray} (h : OwnS w B v L) : ∀ k, v.ownBlock = some k → B ≤ k ∧ k < w.heap.size := World.ownsRow.lt h
theorem OwnS.kpt {w w' : World} {B : Nat} {v : Value} {L : List ByteArray} {S : List Nat} (h : OwnS w B v L) (hk : Kpt S w w') (hS : ∀ g, v.ownBlock = some g → g ∉ S) : OwnS w' B v L := row_kpt h hk hS
theorem OwnS.form {w : World} {B : Nat} {v : Value} {L : List ByteArray} (h : OwnS w B v L) : ∃ a c, v = .slice a L.length c ∧ L.length ≤ c ∧ c ≤ maxLen ∧ (0 < L.length → ∃ g, a = some ⟨g, 0, none⟩ ∧ ∀ i (hi : i < L.length), w.cell? ⟨g, i, none⟩ = some (.string L[i])) := by
 have hh := h
 rcases h.2 with ⟨rfl, hn⟩ | ⟨g, cap, cur, rfl, _, _, h1, h2, _⟩
 ·exact ⟨none, 0, by rw [hn], by omega, by unfold maxLen; omega, fun h0 => by omega⟩
 ·refine ⟨_, cap, rfl, h1, h2, fun _ => ⟨g, rfl, fun i hi => ?_⟩⟩
  have := World.ownsRow.cells hh (g := g) rfl i (.string L[i]) (by simp [hi])
  rw [add_add _ i rfl, Nat.zero_add] at this
  exact this
theorem OwnS.slice {w : World} {B : Nat} {v : Value} {L : List ByteArray} (h : OwnS w B v L) : ∃ a n c, v = .slice a n c := by
 obtain ⟨a, c, h, _⟩ := h.form
 exact ⟨a, _, c, h⟩
theorem wp_appS {w : World} {ops : Array Oper} {rest : List Oper} {o : Oper} {a : Act} {Q : Exit → Act → World → Prop} (hgd : o.guard = none) (s x : Operand)
  (ho : o.op = .call { callee := .builtin .append, args := #[s, x], argTypes := #[48, 48] })
  (B : Nat) (v : Value) (L : List ByteArray) (hs : a.eval s = v) (hown : OwnS w B v L) (g c : Nat) (t : ByteArray) (hx : a.eval x = .slice (some ⟨g, 0, none⟩) 1 c) (hc : w.cell? ⟨g, 0, none⟩ = some (.string t))
  (hb : L.length ≤ 100000000) (hbase : B ≤ w.heap.size)
  (h : ∀ v' w', OwnS w' B v' (L ++ [t]) → w.grownBy w' v.ownBlock → (v'.ownBlock = v.ownBlock ∨ v'.ownBlock = some w.heap.size) → wpList Tryz.prog ops Q rest (a.put o.dst v') w') :
  wpList Tryz.prog ops Q (o :: rest) a w := by
 obtain ⟨i0, hi, hz0, hz1, hz2⟩ := info_parts Tryz.infoS
 refine wpList_append_own_at w hgd s x 48 ho B 9 i0 (.string ⟨#[]⟩) 1 16 Tryz.underlying48 hi hz0 hz1 hz2 rfl (by decide) v L.length (L.map Value.string) hs hown ⟨g, 0, none⟩ 1 c ([t].map Value.string) hx (by simp) ?_ (strs_one [t])
  (by unfold maxLen; omega) (by omega) hbase ?_
 ·intro j u hj
  match j, hj with
  | 0, hj => simp at hj; subst hj; simpa [Addr.add] using hc
 ·intro v' w' h1 h2 _ h4
  refine h v' w' ?_ h2 h4
  unfold OwnS
  rw [List.length_append, List.map_append]
  exact h1
def pos (L : List ByteArray) (s : ByteArray) : Nat := L.findIdx (fun t => decide (t = s))
instance memDec (s : ByteArray) (L : List ByteArray) : Decidable (s ∈ L) := decidable_of_iff (L.any (fun t => decide (t = s)) = true) (by simp)
def putL (L : List ByteArray) (s : ByteArray) : List ByteArray := if s ∈ L then L else L ++ [s]
theorem pos_le (L : List ByteArray) (s : ByteArray) : pos L s ≤ L.length := List.findIdx_le_length
theorem pos_lt {L : List ByteArray} {s : ByteArray} (h : s ∈ L) : pos L s < L.length := List.findIdx_lt_length_of_exists ⟨s, h, by simp⟩
theorem pos_not {L : List ByteArray} {s : ByteArray} (h : s ∉ L) : pos L s = L.length := by
 unfold pos
 rw [List.findIdx_eq_length]
 intro x hx
 simp only [decide_eq_false_iff_not]
 rintro rfl
 exact h hx
theorem pos_at {L : List ByteArray} {s : ByteArray} (h : s ∈ L) : L[pos L s]'(pos_lt h) = s := by
 have := List.findIdx_getElem (xs := L) (p := fun t => decide (t = s)) (w := pos_lt h)
 exact of_decide_eq_true this
theorem pos_app {L : List ByteArray} {s : ByteArray} (M : List ByteArray) (h : s ∈ L) : pos (L ++ M) s = pos L s := by
 have h1 := pos_lt h
 unfold pos at h1 ⊢
 rw [List.findIdx_append, if_pos h1]
theorem pos_new {L : List ByteArray} {s : ByteArray} (h : s ∉ L) : pos (L ++ [s]) s = L.length := by
 unfold pos
 rw [List.findIdx_append, if_neg (by have := pos_not h; unfold pos at this; omega)]
 simp [List.findIdx_cons]
theorem putL_len (L : List ByteArray) (s : ByteArray) : (putL L s).length ≤ L.length + 1 := by unfold putL; split <;> simp
theorem putL_mem (L : List ByteArray) (s : ByteArray) : s ∈ putL L s := by unfold putL; split <;> simp_all
theorem putL_has {L : List ByteArray} {s : ByteArray} (h : s ∈ L) : putL L s = L := if_pos h
def kS (s : ByteArray) : Lit := .string s.data.toList
theorem kS_inj {a b : ByteArray} (h : kS a = kS b) : a = b := by
 unfold kS at h
 simp only [Lit.string.injEq] at h
 obtain ⟨a⟩ := a
 obtain ⟨b⟩ := b
 simp only at h
 rw [Array.toList_inj.1 h]
theorem kS_key (s : ByteArray) : WideAt.IsKeyLit (kS s) := by unfold kS WideAt.IsKeyLit; trivial
def NumD (D : DataW Unit) (L : List ByteArray) : Prop :=
 ∀ s : ByteArray, Maps.has D (kS s) = decide (s ∈ L) ∧ D.atKey (kS s) (.lit (.int .i64 0)) = .lit (.int .i64 ((if s ∈ L then pos L s else 0 : Nat) : Int))
theorem NumD.nil : NumD (.map []) [] := fun _ => ⟨rfl, rfl⟩
theorem NumD.more {D : DataW Unit} {L : List ByteArray} (h : NumD D L) {s : ByteArray} (hs : s ∈ L) : NumD D (L ++ [s]) := by
 intro t
 obtain ⟨h1, h2⟩ := h t
 rw [h1, h2]
 by_cases ht : t ∈ L
 ·rw [pos_app _ ht]
  simp [ht]
 ·have hne : t ≠ s := fun e => ht (by rw [e]; exact hs)
  simp [ht, hne]
theorem NumD.put {D : DataW Unit} {L : List ByteArray} (h : NumD D L) (hD : IsMap D) {s : ByteArray} (hs : s ∉ L) : NumD (D.put (kS s) (.lit (.int .i64 (L.length : Int)))) (L ++ [s]) := by
 intro t
 by_cases e : t = s
 ·subst e
  rw [has_put_same hD (kS_key t), atKey_put_same hD (kS_key t), pos_new hs]
  simp
 ·have hne : kS t ≠ kS s := fun h => e (kS_inj h)
  obtain ⟨h1, h2⟩ := h t
  rw [has_put_other hne, atKey_put_other hne, h1, h2]
  by_cases ht : t ∈ L
  ·rw [pos_app _ ht]
   simp [ht]
  ·simp [ht, e]
theorem lawS : Keyed Tryz.prog 9 := string_keyed Tryz.underlying9
theorem zeroI (w : World) : (zeroValue 3).run Tryz.prog w = .ok (.int .i64 0) w := by kernel_rfl
def Mp (w : World) (b : Nat) (n : Nat) (L : List ByteArray) : Prop := ∃ D : DataW Unit, w.ownsMap Tryz.prog 9 (plainElem Tryz.prog 3) b n D ∧ NumD D L
theorem Mp.made (w : World) : Mp (w.alloc (.map #[] 0)) w.heap.size 0 [] := ⟨_, World.ownsMap_made _ _ _ _, NumD.nil⟩
theorem Mp.mono {w : World} {b n m : Nat} {L : List ByteArray} (h : Mp w b n L) (hm : n ≤ m) : Mp w b m L := by
 obtain ⟨D, h1, h2⟩ := h
 exact ⟨D, h1.mono hm, h2⟩
theorem Mp.map {w : World} {b n : Nat} {L : List ByteArray} (h : Mp w b n L) : ∃ es c, w.heap[b]? = some (.map es c) := by
 obtain ⟨D, ⟨es, c, hb, _⟩, _⟩ := h
 exact ⟨es, c, hb⟩
theorem Mp.kpt {w w' : World} {b n : Nat} {L : List ByteArray} {S : List Nat} (h : Mp w b n L) (hk : Kpt S w w') (hS : b ∉ S) : Mp w' b n L := by
 obtain ⟨D, ⟨es, c, hb, hr⟩, h2⟩ := h
 refine ⟨D, ⟨es, c, ?_, hr⟩, h2⟩
 rw [hk.2 b (Array.getElem?_eq_some_iff.1 hb).1 hS]
 exact hb
theorem wp_look {w : World} {ops : Array Oper} {rest : List Oper} {o : Oper} {a : Act} {Q : Exit → Act → World → Prop} (hg : o.guard = none) (m x : Operand) (hop : o.op = Op.lookup 149 m x true)
  (b n : Nat) (L : List ByteArray) (hm : a.eval m = .map (some b)) (h : Mp w b n L) (s : ByteArray) (hs : s.size ≤ maxLen) (hx : a.eval x = .string s) (ok : Bool) (hok : decide (s ∈ L) = ok) (p : Nat) (hp : (if s ∈ L then pos L s else 0) = p)
  (hK : wpList Tryz.prog ops Q rest (a.put o.dst (.tuple #[.int .i64 p, .bool ok])) w) :
  wpList Tryz.prog ops Q (o :: rest) a w := by
 obtain ⟨D, h1, h2⟩ := h
 refine wpList_lookup_own_ok_int w hg m x _ hop 9 3 .i64 lawS Tryz.underlying149 Tryz.underlying3 (zeroI w) b n D hm h1 _ (kS s) hx (WideMaps.keyOf_string_mk Tryz.underlying9 hs) ?_
 intro c hat _
 obtain ⟨e1, e2⟩ := h2 s
 rw [e2] at hat
 simp only [DataW.lit.injEq, Lit.int.injEq, true_and] at hat
 rw [e1, hok, ← hat, hp]
 exact hK
theorem wp_store {w : World} {ops : Array Oper} {rest : List Oper} {o : Oper} {a : Act} {Q : Exit → Act → World → Prop} (hg : o.guard = none) (m x v : Operand) (hop : o.op = Op.mapUpdate 149 m x v)
  (b : Nat) (L : List ByteArray) (hm : a.eval m = .map (some b)) (h : Mp w b L.length L) (s : ByteArray) (hs : s.size ≤ maxLen) (hx : a.eval x = .string s) (hv : a.eval v = .int .i64 (L.length : Int)) (hn : s ∉ L) (hl : L.length ≤ 100000000)
  (hK : ∀ w', Mp w' b (L ++ [s]).length (L ++ [s]) → w.grownBy w' (some b) → wpList Tryz.prog ops Q rest (a.put o.dst undef) w') :
  wpList Tryz.prog ops Q (o :: rest) a w := by
 obtain ⟨D, h1, h2⟩ := h
 have hwf : (Lit.int .i64 (L.length : Int)).wf = true := WalkArith.wf_i64 (by omega)
 refine wpList_mapUpdate_own w hg m x v _ hop 9 3 lawS Tryz.underlying149 (plainElem Tryz.prog 3) b L.length D hm h1 (by unfold maxLen; omega) _ _ (kS s) hx hv (WideMaps.keyOf_string_mk Tryz.underlying9 hs) (.lit (.int .i64 (L.length : Int))) [] (plainElem_int Tryz.underlying3 hwf) ?_
 intro w' hown hg
 refine hK w' ⟨_, ?_, h2.put h1.isMap hn⟩ hg
 rw [List.length_append]
 exact hown
def Pl (w : World) (B pb mb : Nat) (sl : Value) (L : List ByteArray) : Prop :=
 B ≤ pb ∧ B ≤ mb ∧ w.heap[pb]? = some (.cells #[sl, .map (some mb)] 151 (0, 0)) ∧ OwnS w B sl L ∧ sl.ownBlock ≠ some pb ∧ Mp w mb L.length L
def fp (pb mb : Nat) (sl : Value) : List Nat := pb :: mb :: sl.ownBlock.toList
theorem mem_fp {pb mb x : Nat} {sl : Value} : x ∈ fp pb mb sl ↔ x = pb ∨ x = mb ∨ sl.ownBlock = some x := by
 unfold fp
 simp
theorem Pl.lt {w : World} {B pb mb : Nat} {sl : Value} {L : List ByteArray} (h : Pl w B pb mb sl L) : ∀ x ∈ fp pb mb sl, B ≤ x ∧ x < w.heap.size := by
 obtain ⟨h1, h2, hp, ho, _, hm⟩ := h
 obtain ⟨es, c, hb⟩ := hm.map
 intro x hx
 rcases mem_fp.1 hx with rfl | rfl | hx
 ·exact ⟨h1, (Array.getElem?_eq_some_iff.1 hp).1⟩
 ·exact ⟨h2, (Array.getElem?_eq_some_iff.1 hb).1⟩
 ·exact ho.lt x hx
theorem Pl.kpt {w w' : World} {B pb mb : Nat} {sl : Value} {L : List ByteArray} {S : List Nat} (h : Pl w B pb mb sl L) (hk : Kpt S w w') (hS : ∀ x ∈ fp pb mb sl, x ∉ S) : Pl w' B pb mb sl L := by
 obtain ⟨h1, h2, hp, ho, hn, hm⟩ := h
 refine ⟨h1, h2, ?_, ho.kpt hk (fun g hg => hS g (mem_fp.2 (.inr (.inr hg)))), hn, hm.kpt hk (hS mb (mem_fp.2 (.inr (.inl rfl))))⟩
 rw [hk.2 pb (Array.getElem?_eq_some_iff.1 hp).1 (hS pb (mem_fp.2 (.inl rfl)))]
 exact hp
theorem Pl.cells {w : World} {B pb mb : Nat} {sl : Value} {L : List ByteArray} (h : Pl w B pb mb sl L) : pb < w.heap.size ∧ w.cell? ⟨pb, 0, none⟩ = some sl ∧ w.cell? ⟨pb, 1, none⟩ = some (.map (some mb)) ∧ w.frozen? ⟨pb, 0, none⟩ = false := by
 obtain ⟨_, _, hp, _⟩ := h
 refine ⟨(Array.getElem?_eq_some_iff.1 hp).1, ?_, ?_, ?_⟩
 ·simp [World.cell?, hp]
 ·simp [World.cell?, hp]
 ·simp [World.frozen?, hp]
theorem Pl.mono {w : World} {B B' pb mb : Nat} {sl : Value} {L : List ByteArray} (h : Pl w B pb mb sl L) (hB : B' ≤ B) : Pl w B' pb mb sl L := by
 obtain ⟨h1, h2, hp, ho, hn, hm⟩ := h
 refine ⟨Nat.le_trans hB h1, Nat.le_trans hB h2, hp, ⟨ho.1, ?_⟩, hn, hm⟩
 rcases ho.2 with h' | ⟨g, cap, cur, e, hb, r⟩
 ·exact .inl h'
 ·exact .inr ⟨g, cap, cur, e, Nat.le_trans hB hb, r⟩
def Rp (w : World) (B qb : Nat) (sl : Value) (L : List ByteArray) : Prop :=
 B ≤ qb ∧ w.heap[qb]? = some (.cells #[sl] 91 (0, 0)) ∧ OwnS w B sl L ∧ sl.ownBlock ≠ some qb
def fq (qb : Nat) (sl : Value) : List Nat := qb :: sl.ownBlock.toList
theorem mem_fq {qb x : Nat} {sl : Value} : x ∈ fq qb sl ↔ x = qb ∨ sl.ownBlock = some x := by
 unfold fq
 simp
theorem Rp.lt {w : World} {B qb : Nat} {sl : Value} {L : List ByteArray} (h : Rp w B qb sl L) : ∀ x ∈ fq qb sl, B ≤ x ∧ x < w.heap.size := by
 obtain ⟨h1, hp, ho, _⟩ := h
 intro x hx
 rcases mem_fq.1 hx with rfl | hx
 ·exact ⟨h1, (Array.getElem?_eq_some_iff.1 hp).1⟩
 ·exact ho.lt x hx
theorem Rp.kpt {w w' : World} {B qb : Nat} {sl : Value} {L : List ByteArray} {S : List Nat} (h : Rp w B qb sl L) (hk : Kpt S w w') (hS : ∀ x ∈ fq qb sl, x ∉ S) : Rp w' B qb sl L := by
 obtain ⟨h1, hp, ho, hn⟩ := h
 refine ⟨h1, ?_, ho.kpt hk (fun g hg => hS g (mem_fq.2 (.inr hg))), hn⟩
 rw [hk.2 qb (Array.getElem?_eq_some_iff.1 hp).1 (hS qb (mem_fq.2 (.inl rfl)))]
 exact hp
theorem Rp.cells {w : World} {B qb : Nat} {sl : Value} {L : List ByteArray} (h : Rp w B qb sl L) : qb < w.heap.size ∧ w.cell? ⟨qb, 0, none⟩ = some sl ∧ w.frozen? ⟨qb, 0, none⟩ = false := by
 obtain ⟨_, hp, _⟩ := h
 refine ⟨(Array.getElem?_eq_some_iff.1 hp).1, ?_, ?_⟩
 ·simp [World.cell?, hp]
 ·simp [World.frozen?, hp]
end Go.Proofs.YtijnimjmimeefaaGreat
namespace Go.Proofs.YtijnimjmimeefaaGreat
open Go.RowKit Go.Maps
def On (w w' : World) (B pb mb : Nat) (sl sl' : Value) (L' : List ByteArray) : Prop :=
 Pl w' B pb mb sl' L' ∧ Kpt (fp pb mb sl) w w' ∧ ∀ g, sl'.ownBlock = some g → sl.ownBlock = some g ∨ w.heap.size ≤ g
theorem On.fresh {w w' : World} {B pb mb : Nat} {sl sl' : Value} {L' : List ByteArray} (h : On w w' B pb mb sl sl' L') : ∀ x ∈ fp pb mb sl', x ∈ fp pb mb sl ∨ w.heap.size ≤ x := by
 intro x hx
 rcases mem_fp.1 hx with e | e | e
 ·exact .inl (mem_fp.2 (.inl e))
 ·exact .inl (mem_fp.2 (.inr (.inl e)))
 ·exact (h.2.2 x e).imp (fun e => mem_fp.2 (.inr (.inr e))) id
set_option maxHeartbeats 400000 in
set_option maxRecDepth 100000 in
theorem pnew_any (w : World) : Calls Tryz.prog 70 #[] w fun e w' => ∃ pb mb, e = .returned (.pointer (some ⟨pb, 0, none⟩)) ∧ Pl w' w.heap.size pb mb (.slice none 0 0) [] ∧ Below w.heap.size w w' := by
 have hmm := @run_makeMap Tryz.prog
 go_enter Tryz.func70, Tryz.ntmps70
 go_wp2
 go_ret
 refine ⟨_, w.heap.size, rfl, ⟨?_, Nat.le_refl _, ?_, OwnS.nil _ _, (fun h => by cases h), ?_⟩, ((Below.refl _ w).alloc (Nat.le_refl _) _).alloc (by simp) _⟩
 ·simp
 ·have := heap_alloc_new (w.alloc (.map #[] 0)) (.cells #[Value.slice none 0 0, Value.map (some w.heap.size)] 151)
  simpa using this
 ·exact (Mp.made w).kpt (Kpt.alloc [] _ _) (by simp)
set_option maxHeartbeats 400000 in
set_option maxRecDepth 100000 in
theorem plen_any (B pb mb : Nat) (sl : Value) (L : List ByteArray) (w : World) (h : Pl w B pb mb sl L) :
  Calls Tryz.prog 73 #[.pointer (some ⟨pb, 0, none⟩)] w fun e w' => e = .returned (.int .i64 L.length) ∧ w = w' := by
 obtain ⟨hlt, c0, _, _⟩ := h.cells
 obtain ⟨a, c, rfl, h1, h2, _⟩ := h.2.2.2.1.form
 go_enter Tryz.func73, Tryz.ntmps73
 go_wp2
 go_ret
 exact ⟨rfl, rfl⟩
set_option maxHeartbeats 400000 in
set_option maxRecDepth 100000 in
theorem pat_in (B pb mb : Nat) (sl : Value) (L : List ByteArray) (i : Nat) (w : World) (h : Pl w B pb mb sl L) (hi : i < L.length) :
  Calls Tryz.prog 139 #[.pointer (some ⟨pb, 0, none⟩), .int .i64 i] w fun e w' => e = .returned (.tuple #[.string L[i], .bool true]) ∧ w = w' := by
 obtain ⟨hlt, c0, _, _⟩ := h.cells
 obtain ⟨a, c, rfl, h1, h2, hf⟩ := h.2.2.2.1.form
 obtain ⟨g, rfl, hc⟩ := hf (by omega)
 have ci := hc i hi
 unfold maxLen at h2
 go_enter Tryz.func139, Tryz.ntmps139
 go_wp2
 go_ret2
 exact ⟨rfl, rfl⟩
set_option maxHeartbeats 400000 in
set_option maxRecDepth 100000 in
theorem pat_out (B pb mb : Nat) (sl : Value) (L : List ByteArray) (i : Int) (w : World) (h : Pl w B pb mb sl L) (hi : i < 0 ∨ (L.length : Int) ≤ i) :
  Calls Tryz.prog 139 #[.pointer (some ⟨pb, 0, none⟩), .int .i64 i] w fun e w' => e = .returned (.tuple #[.string ⟨#[]⟩, .bool false]) ∧ w = w' := by
 obtain ⟨hlt, c0, _, _⟩ := h.cells
 obtain ⟨a, c, rfl, h1, h2, _⟩ := h.2.2.2.1.form
 by_cases hn : i < 0
 all_goals
  go_enter Tryz.func139, Tryz.ntmps139
  go_wp2
  go_ret2
  exact ⟨rfl, rfl⟩
theorem add_facts {w w1 : World} {B pb mb : Nat} {sl v' : Value} {L : List ByteArray} {s : ByteArray} {o : Obj} (h : Pl w B pb mb sl L) (ho : OwnS w1 B v' (L ++ [s])) (hg : (w.alloc o).grownBy w1 sl.ownBlock)
  (hl : v'.ownBlock = sl.ownBlock ∨ v'.ownBlock = some (w.heap.size + 1)) :
  w1.cell? ⟨pb, 0, none⟩ = some sl ∧ w1.frozen? ⟨pb, 0, none⟩ = false ∧ w1.cell? ⟨pb, 1, none⟩ = some (.map (some mb)) ∧ (w1.setCell ⟨pb, 0, none⟩ v').cell? ⟨pb, 1, none⟩ = some (.map (some mb)) ∧ Mp (w1.setCell ⟨pb, 0, none⟩ v') mb L.length L ∧
  ∀ w3, Mp w3 mb (L.length + 1) (L ++ [s]) → (w1.setCell ⟨pb, 0, none⟩ v').grownBy w3 (some mb) → On w w3 B pb mb sl v' (L ++ [s]) := by
 have hlt := h.lt
 obtain ⟨h1, h2, hp, hs, hn, hm⟩ := id h
 obtain ⟨es, cl, hmb⟩ := hm.map
 have hpl := (hlt pb (mem_fp.2 (.inl rfl))).2
 have hml := (hlt mb (mem_fp.2 (.inr (.inl rfl)))).2
 have hne : mb ≠ pb := by
  rintro rfl
  rw [hp] at hmb
  cases hmb
 have hsm : sl.ownBlock ≠ some mb := by
  intro e
  rcases hs.2 with ⟨rfl, _⟩ | ⟨g, cap, cur, rfl, _, hg, _⟩
  ·cases e
  ·simp only [Value.ownBlock, Option.some.injEq] at e
   subst e
   rw [hg] at hmb
   cases hmb
 have hvb : v'.ownBlock ≠ some pb := by
  rcases hl with e | e
  ·rw [e]; exact hn
  ·rw [e]; simp only [ne_eq, Option.some.injEq]; omega
 have hvm : v'.ownBlock ≠ some mb := by
  rcases hl with e | e
  ·rw [e]; exact hsm
  ·rw [e]; simp only [ne_eq, Option.some.injEq]; omega
 have k1 : Kpt (fp pb mb sl) w w1 := (Kpt.alloc _ w o).trans (.of_grown (S := fp pb mb sl) hg (fun g e => .inl (mem_fp.2 (.inr (.inr e))))) (fun x hx => .inl hx)
 have k1' : Kpt sl.ownBlock.toList w w1 := (Kpt.alloc _ w o).trans (.of_grown (S := sl.ownBlock.toList) hg (fun g e => .inl (by rw [e]; simp))) (fun x hx => .inl hx)
 have hp1 : w1.heap[pb]? = some (.cells #[sl, .map (some mb)] 151 (0, 0)) := by
  rw [k1'.2 pb hpl (by simpa using hn)]
  exact hp
 have hm1 : Mp w1 mb L.length L := hm.kpt k1' (by simpa using hsm)
 have k2 : Kpt [pb] w1 (w1.setCell ⟨pb, 0, none⟩ v') := Kpt.set _ _ _ _ _ (by simp)
 have hp2 : (w1.setCell ⟨pb, 0, none⟩ v').heap[pb]? = some (.cells #[v', .map (some mb)] 151 (0, 0)) := by
  rw [heap_setCell_same w1 pb 0 _ _ _ hp1]; rfl
 refine ⟨?_, ?_, ?_, ?_, hm1.kpt k2 (by simpa using hne), fun w3 hm3 hg3 => ?_⟩
 ·simp [World.cell?, hp1]
 ·simp [World.frozen?, hp1]
 ·simp [World.cell?, hp1]
 ·simp [World.cell?, hp2]
 ·have k3 : Kpt [mb] (w1.setCell ⟨pb, 0, none⟩ v') w3 := .of_grown hg3 (fun g e => by cases e; exact .inl (by simp))
  refine ⟨⟨h1, h2, ?_, (ho.kpt k2 (fun g e => ?_)).kpt k3 (fun g e => ?_), hvb, by rw [List.length_append]; exact hm3⟩, (k1.trans k2 (fun x hx => .inl ?_)).trans k3 (fun x hx => .inl ?_), fun g e => ?_⟩
  ·rw [k3.2 pb (by have := k1.size; have := k2.size; omega) (by simpa using hne.symm)]
   exact hp2
  ·rw [e] at hvb; simpa using hvb
  ·rw [e] at hvm; simpa using hvm
  ·rw [List.mem_singleton.1 hx]; exact mem_fp.2 (.inl rfl)
  ·rw [List.mem_singleton.1 hx]; exact mem_fp.2 (.inr (.inl rfl))
  ·rcases hl with h | h
   ·exact .inl (by rw [← h]; exact e)
   ·rw [h] at e
    cases e
    exact .inr (by omega)
theorem Mp.more {w : World} {mb : Nat} {L : List ByteArray} {s : ByteArray} (h : Mp w mb L.length L) (hs : s ∈ L) : Mp w mb (L.length + 1) (L ++ [s]) := by
 obtain ⟨D, h1, h2⟩ := h
 exact ⟨D, h1.mono (by simp), h2.more hs⟩
set_option maxHeartbeats 1000000 in
set_option maxRecDepth 100000 in
theorem padd_any (B pb mb : Nat) (sl : Value) (L : List ByteArray) (s : ByteArray) (w : World) (h : Pl w B pb mb sl L) (hB : B ≤ w.heap.size) (hL : L.length ≤ 10000000) (hs : s.size ≤ 100000000) :
  Calls Tryz.prog 95 #[.pointer (some ⟨pb, 0, none⟩), .string s] w fun e w' => ∃ sl', e = .returned (.int .i64 L.length) ∧ On w w' B pb mb sl sl' (L ++ [s]) := by
 obtain ⟨hlt, c0, c1, f0⟩ := h.cells
 have ho := h.2.2.2.1
 obtain ⟨a, c, hsl, h1, h2, _⟩ := ho.form
 have hsm : s.size ≤ maxLen := by unfold maxLen; omega
 subst hsl
 by_cases hin : s ∈ L
 ·have hd : decide (s ∈ L) = true := decide_eq_true hin
  have hp : (if s ∈ L then pos L s else 0) = pos L s := if_pos hin
  go_enter Tryz.func95, Tryz.ntmps95
  go_wp2_with (at_builtin; refine wp_appS rfl _ _ rfl B _ L rfl (ho.alloc _) w.heap.size 1 s rfl ?d1 ?d2 ?d3 ?_)
  case d1 => simp
  case d2 => omega
  case d3 => simp; omega
  intro v' w1 ho1 hg1 hl1
  obtain ⟨a', n', c', hv'⟩ := ho1.slice
  subst hv'
  obtain ⟨d0, g0, d1, d2, hm1, hfin⟩ := add_facts h ho1 hg1 hl1
  have HF := Lib.hid (hfin _ (hm1.more hin) (grown_refl _ _))
  clear hfin ho1 hg1 hl1
  go_wp2_with (at_lookup; refine wp_look rfl _ _ rfl mb L.length L rfl hm1 s hsm rfl true hd _ hp ?_)
  go_wp2
  go_ret
  exact ⟨_, rfl, HF.out⟩
 ·have hd : decide (s ∈ L) = false := decide_eq_false hin
  have hp : (if s ∈ L then pos L s else 0) = 0 := if_neg hin
  go_enter Tryz.func95, Tryz.ntmps95
  go_wp2_with (at_builtin; refine wp_appS rfl _ _ rfl B _ L rfl (ho.alloc _) w.heap.size 1 s rfl ?d1 ?d2 ?d3 ?_)
  case d1 => simp
  case d2 => omega
  case d3 => simp; omega
  intro v' w1 ho1 hg1 hl1
  obtain ⟨a', n', c', hv'⟩ := ho1.slice
  subst hv'
  obtain ⟨d0, g0, d1, d2, hm1, hfin⟩ := add_facts h ho1 hg1 hl1
  have HF := Lib.hid hfin
  clear hfin ho1 hg1 hl1
  go_wp2_with first | (at_lookup; refine wp_look rfl _ _ rfl mb L.length L rfl hm1 s hsm rfl false hd _ hp ?_) | (at_mapUpdate; refine wp_store rfl _ _ _ rfl mb L rfl hm1 s hsm rfl rfl hin (by omega) ?_)
  intro w3 hm3 hg3
  have HE := Lib.hid (HF.out w3 hm3 hg3)
  clear HF
  go_wp2
  go_ret
  exact ⟨_, rfl, HE.out⟩
set_option maxHeartbeats 1000000 in
set_option maxRecDepth 100000 in
theorem clone_s (s : ByteArray) (w : World) (hs : s.size ≤ 100000000) :
  Calls Tryz.prog 196 #[.string s] w fun e w' => e = .returned (.string s) ∧ Below w.heap.size w w' := by
 go_enter Tryz.func196, Tryz.ntmps196
 go_wp2_with fail
 refine (Tryz.stringslite_Clone s _ (by omega)).mono ?_
 rintro e w1 ⟨rfl, hb⟩
 go_wp2
 go_ret
 exact ⟨rfl, hb⟩
set_option maxHeartbeats 1000000 in
set_option maxRecDepth 100000 in
theorem pput_in (B pb mb : Nat) (sl : Value) (L : List ByteArray) (s : ByteArray) (w : World) (h : Pl w B pb mb sl L) (hs : s.size ≤ 100000000) (hin : s ∈ L) :
  Calls Tryz.prog 161 #[.pointer (some ⟨pb, 0, none⟩), .string s] w fun e w' => e = .returned (.int .i64 (pos L s)) ∧ w = w' := by
 obtain ⟨hlt, c0, c1, f0⟩ := h.cells
 have hm := h.2.2.2.2.2
 have hsm : s.size ≤ maxLen := by unfold maxLen; omega
 have hd : decide (s ∈ L) = true := decide_eq_true hin
 have hp : (if s ∈ L then pos L s else 0) = pos L s := if_pos hin
 go_enter Tryz.func161, Tryz.ntmps161
 go_wp2_with (at_lookup; refine wp_look rfl _ _ rfl mb L.length L rfl hm s hsm rfl true hd _ hp ?_)
 go_wp2
 go_ret
 exact ⟨rfl, rfl⟩
set_option maxHeartbeats 1000000 in
set_option maxRecDepth 100000 in
theorem pput_any (B pb mb : Nat) (sl : Value) (L : List ByteArray) (s : ByteArray) (w : World) (h : Pl w B pb mb sl L) (hB : B ≤ w.heap.size) (hL : L.length ≤ 10000000) (hs : s.size ≤ 100000000) :
  Calls Tryz.prog 161 #[.pointer (some ⟨pb, 0, none⟩), .string s] w fun e w' => ∃ sl', e = .returned (.int .i64 (pos L s)) ∧ On w w' B pb mb sl sl' (putL L s) := by
 obtain ⟨hlt, c0, c1, f0⟩ := h.cells
 have hm := h.2.2.2.2.2
 have hsm : s.size ≤ maxLen := by unfold maxLen; omega
 by_cases hin : s ∈ L
 ·refine (pput_in B pb mb sl L s w h hs hin).mono ?_
  rintro e w' ⟨rfl, rfl⟩
  exact ⟨sl, rfl, by rw [putL_has hin]; exact h, Kpt.refl _ _, fun g e => .inl e⟩
 ·have hd : decide (s ∈ L) = false := decide_eq_false hin
  have hp : (if s ∈ L then pos L s else 0) = 0 := if_neg hin
  go_enter Tryz.func161, Tryz.ntmps161
  go_wp2_with (at_lookup; refine wp_look rfl _ _ rfl mb L.length L rfl hm s hsm rfl false hd _ hp ?_)
  go_wp2_with fail
  refine (clone_s s _ hs).mono ?_
  rintro e w1 ⟨rfl, hb⟩
  have k1 : Kpt [] w w1 := .of_below hb
  go_wp2_with fail
  refine (padd_any B pb mb sl L s _ (h.kpt k1 (fun x _ => by simp)) (Nat.le_trans hB k1.size) hL hs).mono ?_
  rintro e w2 ⟨sl', rfl, hp2, hk2, hf2⟩
  go_wp2
  go_ret
  refine ⟨sl', by rw [pos_not hin]; rfl, by unfold putL; rw [if_neg hin]; exact hp2, ?_, fun g e => (hf2 g e).imp id (fun h => Nat.le_trans k1.size h)⟩
  exact (k1.mono (S' := fp pb mb sl) (fun x hx => by simp at hx)).trans hk2 (fun x hx => .inl hx)
end Go.Proofs.YtijnimjmimeefaaGreat
namespace Go.Proofs.YtijnimjmimeefaaGreat
open Go.RowKit Go.Maps
def tb (s : ByteArray) : List UInt8 := nb s.size ++ sb s
def tbs (L : List ByteArray) : List UInt8 := L.flatMap tb
def poolB (L : List ByteArray) : List UInt8 := nb L.length ++ tbs L
theorem tbs_snoc (L : List ByteArray) (k : Nat) (h : k < L.length) : tbs (L.take (k + 1)) = tbs (L.take k) ++ tb L[k] := by
 rw [List.take_succ_eq_append_getElem h, tbs, tbs, List.flatMap_append, List.flatMap_cons, List.flatMap_nil, List.append_nil]
theorem tbs_cons (s : ByteArray) (L : List ByteArray) : tbs (s :: L) = tb s ++ tbs L := rfl
theorem tb_len {s : ByteArray} (h : s.size ≤ 10000) : (tb s).length ≤ s.size + 10 := by
 unfold tb
 rw [List.length_append, sb_len]
 have := nb_len10 (u64_of_le h (by decide)).out
 omega
theorem tbs_take (L : List ByteArray) (k : Nat) : (tbs (L.take k)).length ≤ (tbs L).length := by
 have : tbs L = tbs (L.take k) ++ tbs (L.drop k) := by
  unfold tbs
  rw [← List.flatMap_append, List.take_append_drop]
 rw [this, List.length_append]
 omega
theorem nums_len (n : Nat) : nums [(n : Int)] = nb n := by rw [nums_one, cnt_nat]
set_option maxHeartbeats 1000000 in
set_option maxRecDepth 100000 in
theorem pbytes_any (B pb mb : Nat) (sl : Value) (L : List ByteArray) (w : World) (h : Pl w B pb mb sl L) (hL : L.length ≤ 10000000) (hs : ∀ s ∈ L, s.size ≤ 10000) (hT : (tbs L).length ≤ 30000000) :
  Calls Tryz.prog 40 #[.pointer (some ⟨pb, 0, none⟩)] w fun e w' => ∃ v, e = .returned v ∧ Own w' w.heap.size v (poolB L) ∧ Below w.heap.size w w' := by
 obtain ⟨hlt, c0, _, _⟩ := h.cells
 obtain ⟨a, c, hsl, h1, h2, hf⟩ := h.2.2.2.1.form
 have hbl := fun g (e : sl.ownBlock = some g) => (h.lt g (mem_fp.2 (.inr (.inr e)))).2
 have hn10 := nb_len10 (u64_of_le hL (by decide)).out
 subst hsl
 unfold maxLen at h2
 clear h
 go_enter Tryz.func40, Tryz.ntmps40
 go_wp2_with fail
 refine (num_any (.slice none 0 0) _ [] [(L.length : Int)] _ (rd_nil _) (.inl rfl) (by simp) (rdI_new1 w _ _ (by omega) (by omega)) (.inr fun g hg => by cases hg; simp) (by simp)).mono ?_
 rintro e w1 ⟨v1, rfl, ho1, hb1⟩
 have hB1 : Below w.heap.size w w1 := ((Below.refl _ w).alloc (Nat.le_refl _) _).trans (hb1.mono (by simp))
 have ho2 : Own w1 w.heap.size v1 (nb L.length) := by
  rw [List.nil_append, nums_len] at ho1
  exact ho1.mono (by simp)
 have d0 : w1.cell? ⟨pb, 0, none⟩ = some (.slice a L.length c) := (hB1.cell (p := ⟨pb, 0, none⟩) hlt).trans c0
 clear hb1 ho1
 go_wp2
 go_loopw [3, 18] (fun s i wr => ∃ k : Nat, i = .int .i64 k ∧ k ≤ L.length ∧ Own wr w.heap.size s (nb L.length ++ tbs (L.take k)) ∧ Below w.heap.size w wr) (fun _ i _ => L.length - (intOf i).toNat)
 case atStart => exact ⟨0, rfl, Nat.zero_le _, by simpa [tbs] using ho2, hB1⟩
 case round =>
  clear ho2 hB1 d0
  obtain ⟨k, rfl, hk, ho, hB⟩ := hrel
  by_cases hlt2 : k < L.length
  ·obtain ⟨g, rfl, hc⟩ := hf (by omega)
   have hcell : wr.cell? ⟨g, k, none⟩ = some (.string L[k]) := (hB.cell (p := ⟨g, k, none⟩) (hbl g rfl)).trans (hc k hlt2)
   have hsk := hs L[k] (List.getElem_mem hlt2)
   have hU := Lib.hid (tbs_snoc L k hlt2)
   have hT1 := tbs_take L k
   have hT2 := tb_len hsk
   have hl1 : (nb L.length ++ tbs (L.take k)).length ≤ 31000000 := by rw [List.length_append]; omega
   have hsz := hB.size
   clear hc hf hbl hs
   go_wp2_with fail
   refine (text_any (.slice none 0 0) [] L[k] _ (rd_nil _) (.inl rfl) (by simp) hsk).mono ?_
   rintro e w2 ⟨v2, rfl, ho2, hb2⟩
   rw [List.nil_append] at ho2
   have ho3 : Own w2 w.heap.size _ _ := ho.below hb2 (fun g hg => (ho.lt g hg).2)
   have hB2 : Below w.heap.size w w2 := hB.trans (hb2.mono hsz)
   have hsz2 := hB2.size
   have hv2 := ho2.rd
   have hlen2 : (nb L[k].size ++ sb L[k]).length ≤ 10010 := by have := hT2; unfold tb at this; omega
   go_wp2_with (at_builtin; refine wp_app rfl _ _ rfl w.heap.size _ _ rfl ho3 _ _ rfl hv2 (by omega) (by omega) ?_)
   intro v4 w4 ho4 hg4 _
   have hB4 : Below w.heap.size w w4 := hB2.grown hg4 hsz2 (fun k hk => (ho3.lt k hk).1)
   have HO := Lib.hid ho4
   clear ho4 ho3 ho2 ho hg4 hv2
   go_wp2
   go_roundw
   case rel => exact ⟨k + 1, by go_num, by omega, by rw [hU.out]; exact HO.out, hB4⟩
   case measure => simp [intOf]; omega
  ·go_wp2
   go_ret
   exact ⟨_, rfl, by rw [List.take_of_length_le (by omega)] at ho; exact ho, hB⟩
end Go.Proofs.YtijnimjmimeefaaGreat
namespace Go.Proofs.YtijnimjmimeefaaGreat
open Go.RowKit
def ActAt (w : World) (b off i : Nat) (A M : Int) : Prop :=
 b < w.heap.size ∧ w.cell? ⟨b, off + i * 2, none⟩ = some (.int .u8 A) ∧ w.cell? ⟨b, off + i * 2 + 1, none⟩ = some (.int .i64 M)
theorem ActAt.below {w w' : World} {b off i : Nat} {A M : Int} (h : ActAt w b off i A M) (hb : Below w.heap.size w w') : w'.cell? ⟨b, off + i * 2, none⟩ = some (.int .u8 A) ∧ w'.cell? ⟨b, off + i * 2 + 1, none⟩ = some (.int .i64 M) :=
 ⟨(hb.cell (p := ⟨b, off + i * 2, none⟩) h.1).trans h.2.1, (hb.cell (p := ⟨b, off + i * 2 + 1, none⟩) h.1).trans h.2.2⟩
end Go.Proofs.YtijnimjmimeefaaGreat
namespace Go.Proofs.YtijnimjmimeefaaGreat
open Go.RowKit
def U63 (v : Nat) : Prop := v ≤ 9223372036854775807
theorem U63.div {v : Nat} (h : U63 v) (k : Nat) : U63 (v / k) := Nat.le_trans (Nat.div_le_self v k) h
end Go.Proofs.YtijnimjmimeefaaGreat
namespace Go.Proofs.YtijnimjmimeefaaGreat
open Go.RowKit
def Ref (w : World) (M qb : Nat) (bs : List UInt8) (k e : Nat) : Prop :=
 M ≤ qb ∧ k ≤ bs.length ∧ ∃ p c, w.heap[qb]? = some (.cells #[.slice p bs.length c, .int .i64 k, .int .i64 e] 104 (0, 0)) ∧ Rd w (.slice p bs.length c) bs ∧
  (bs = [] ∨ ∀ g, (Value.slice p bs.length c).ownBlock = some g → g < M)
def GoneF (w w' : World) (M qb : Nat) (bs : List UInt8) (k e : Nat) : Prop := Ref w' M qb bs k e ∧ w.grownBy w' (some qb)
theorem Rd.grown {w w' : World} {v : Value} {l : List UInt8} {r : Option Nat} (h : Rd w v l) (hg : w.grownBy w' r) (hv : l = [] ∨ ∀ g, v.ownBlock = some g → g < w.heap.size ∧ some g ≠ r) : Rd w' v l := by
 obtain ⟨p, cap, rfl, h1, h2, h3⟩ := h
 refine ⟨p, cap, rfl, h1, h2, fun a ha i x hx => ?_⟩
 rcases hv with rfl | hv
 ·simp at hx
 ·have := hv a.block (by rw [ha]; rfl)
  have hb := hg.block a.block this.1 this.2
  rw [World.cell?_of_block (w := w) (a := a.add i) (by rw [add_block]; exact hb)]
  exact h3 a ha i x hx
theorem Ref.lt {w : World} {M qb : Nat} {bs : List UInt8} {k e : Nat} (h : Ref w M qb bs k e) : qb < w.heap.size := by
 obtain ⟨_, _, p, c, hx, _⟩ := h
 exact (Array.getElem?_eq_some_iff.1 hx).1
theorem Ref.drewN {w : World} {M qb : Nat} {bs : List UInt8} {k e : Nat} (h : Ref w M qb bs k e) (n : Nat) : Ref (w.drewN n) M qb bs k e := h
theorem GoneF.drewN {w w' : World} {M qb : Nat} {bs : List UInt8} {k e n : Nat} (h : GoneF (w.drewN n) w' M qb bs k e) : GoneF w w' M qb bs k e := ⟨h.1, grown_trans (grown_drewN w n _) h.2⟩
theorem Ref.cells {w : World} {M qb : Nat} {bs : List UInt8} {k e : Nat} (h : Ref w M qb bs k e) : ∃ p c, Rd w (.slice p bs.length c) bs ∧ bs.length ≤ c ∧ qb < w.heap.size ∧
  w.cell? ⟨qb, 0, none⟩ = some (.slice p bs.length c) ∧ w.cell? ⟨qb, 1, none⟩ = some (.int .i64 k) ∧ w.cell? ⟨qb, 2, none⟩ = some (.int .i64 e) ∧
  w.frozen? ⟨qb, 1, none⟩ = false ∧ w.frozen? ⟨qb, 2, none⟩ = false := by
 obtain ⟨_, _, p, c, hb, hr, _⟩ := h
 have hlt := (Array.getElem?_eq_some_iff.1 hb).1
 obtain ⟨p', c', hpc, hle, _⟩ := id hr
 simp only [Value.slice.injEq] at hpc
 obtain ⟨rfl, _, rfl⟩ := hpc
 refine ⟨p, c, hr, hle, hlt, ?_, ?_, ?_, ?_, ?_⟩
 ·simp [World.cell?, hb]
 ·simp [World.cell?, hb]
 ·simp [World.cell?, hb]
 ·simp [World.frozen?, hb]
 ·simp [World.frozen?, hb]
theorem Ref.set {w : World} {M qb : Nat} {bs : List UInt8} {k e : Nat} (h : Ref w M qb bs k e) : (∀ x : Nat, GoneF w (w.setCell ⟨qb, 2, none⟩ (.int .i64 x)) M qb bs k x) ∧ ∀ x : Nat, x ≤ bs.length → GoneF w (w.setCell ⟨qb, 1, none⟩ (.int .i64 x)) M qb bs x e := by
 obtain ⟨h1, h2, p, c, hb, hr, hv⟩ := h
 have hlt := (Array.getElem?_eq_some_iff.1 hb).1
 have hv' : bs = [] ∨ ∀ g, (Value.slice p bs.length c).ownBlock = some g → g < w.heap.size ∧ some g ≠ some qb := hv.imp id (fun h g hg => ⟨by have := h g hg; omega, by have := h g hg; intro e; cases e; omega⟩)
 refine ⟨fun x => ⟨⟨h1, h2, p, c, ?_, hr.grown (grown_set w qb 2 _) hv', hv⟩, grown_set w qb 2 _⟩, fun x hx => ⟨⟨h1, hx, p, c, ?_, hr.grown (grown_set w qb 1 _) hv', hv⟩, grown_set w qb 1 _⟩⟩
 ·rw [heap_setCell_same w qb 2 _ _ _ hb]; rfl
 ·rw [heap_setCell_same w qb 1 _ _ _ hb]; rfl
theorem numR_look {bs : List UInt8} {k e m a s x : Nat} (h : lookR bs k e m = (a, s, x)) : numR bs k e m = if x = 0 then (a, k + s, 0) else (0, k, x) := by
 unfold numR
 rw [h]
end Go.Proofs.YtijnimjmimeefaaGreat
namespace Go.Proofs.YtijnimjmimeefaaGreat
open Go.RowKit
theorem numR_le {bs : List UInt8} {k e m v k' e' : Nat} (hk : k ≤ bs.length) (he : e < 100) (h : numR bs k e m = (v, k', e')) : v ≤ m ∧ k' ≤ bs.length ∧ e' < 100 := by
 rcases hL : lookR bs k e m with ⟨a, s, x⟩
 have hf := lookR_facts bs k e m a s x hk he hL
 rw [numR_look hL] at h
 by_cases hx : x = 0
 ·rw [if_pos hx] at h
  simp only [Prod.mk.injEq] at h
  have h2 := hf.2.1 hx
  omega
 ·rw [if_neg hx] at h
  simp only [Prod.mk.injEq] at h
  omega
end Go.Proofs.YtijnimjmimeefaaGreat
namespace Go.Proofs.YtijnimjmimeefaaGreat
open Go.RowKit
theorem textR_num {bs : List UInt8} {k e m v k' e' : Nat} (h : numR bs k e m = (v, k', e')) :
  textR bs k e m = if e' = 0 then (if bs.length - k' < v then ([], k, 20) else ((bs.drop k').take v, k' + v, 0)) else ([], k, e') := by
 rcases hL : lookR bs k e m with ⟨a, s, x⟩
 rw [numR_look hL] at h
 unfold textR
 rw [hL]
 by_cases hx : x = 0
 ·rw [if_pos hx] at h
  simp only [Prod.mk.injEq] at h
  obtain ⟨rfl, rfl, rfl⟩ := h
  simp [hx]
 ·rw [if_neg hx] at h
  simp only [Prod.mk.injEq] at h
  obtain ⟨_, _, rfl⟩ := h
  simp [hx]
end Go.Proofs.YtijnimjmimeefaaGreat
namespace Go.Proofs.YtijnimjmimeefaaGreat
open Go.RowKit Go.Maps
def textsR (bs : List UInt8) : Nat → Nat → Nat → List ByteArray × Nat × Nat
 | 0, k, e => ([], k, e)
 | n + 1, k, e =>
  if e = 0 then (tx (textR bs k e 1000).1 :: (textsR bs n (textR bs k e 1000).2.1 (textR bs k e 1000).2.2).1, (textsR bs n (textR bs k e 1000).2.1 (textR bs k e 1000).2.2).2)
  else ([], k, e)
def poolR (bs : List UInt8) (k e : Nat) : List ByteArray × Nat × Nat := textsR bs (numR bs k e 10000).1 (numR bs k e 10000).2.1 (numR bs k e 10000).2.2
theorem textsR_stop {bs : List UInt8} {n k e : Nat} (he : e ≠ 0) : textsR bs n k e = ([], k, e) := by
 cases n with
 | zero => rfl
 | succ n => rw [textsR, if_neg he]
theorem textsR_more {bs : List UInt8} {n k k' e' : Nat} {l : List UInt8} (h : textR bs k 0 1000 = (l, k', e')) : textsR bs (n + 1) k 0 = (tx l :: (textsR bs n k' e').1, (textsR bs n k' e').2) := by
 rw [textsR, if_pos rfl, h]
theorem poolR_num {bs : List UInt8} {k e n k' e' : Nat} (h : numR bs k e 10000 = (n, k', e')) : poolR bs k e = textsR bs n k' e' := by
 unfold poolR
 rw [h]
theorem textR_le {bs l : List UInt8} {k e m k' e' : Nat} (hk : k ≤ bs.length) (he : e < 100) (h : textR bs k e m = (l, k', e')) : l.length ≤ m ∧ e' < 100 := by
 rcases hN : numR bs k e m with ⟨v, k1, e1⟩
 have hf := numR_le hk he hN
 rw [textR_num hN] at h
 by_cases h0 : e1 = 0
 ·rw [if_pos h0] at h
  by_cases h1 : bs.length - k1 < v
  ·rw [if_pos h1] at h
   simp only [Prod.mk.injEq] at h
   obtain ⟨rfl, _, rfl⟩ := h
   exact ⟨by simp, by decide⟩
  ·rw [if_neg h1] at h
   simp only [Prod.mk.injEq] at h
   obtain ⟨rfl, _, rfl⟩ := h
   rw [List.length_take]
   exact ⟨by omega, by decide⟩
 ·rw [if_neg h0] at h
  simp only [Prod.mk.injEq] at h
  obtain ⟨rfl, _, rfl⟩ := h
  exact ⟨by simp, hf.2.2⟩
end Go.Proofs.YtijnimjmimeefaaGreat
namespace Go.Proofs.YtijnimjmimeefaaGreat.D
open Go.RowKit
def letB (c : Int) : Bool := decide ((97 ≤ c ∧ c ≤ 122) ∨ (65 ≤ c ∧ c ≤ 90))
def digB (c : Int) : Bool := decide (48 ≤ c ∧ c ≤ 57)
theorem ret_bool {a b : Bool} (h : a = b) : Ending.returned (.bool a) = .returned (.bool b) := by rw [h]
theorem ret_str {a b : ByteArray} (h : a = b) : Ending.returned (.string a) = .returned (.string b) := by rw [h]
theorem letter_any (c : Int) (w : World) :
  Calls Tryz.prog 186 #[.int .u8 c] w fun e w' => e = .returned (.bool (letB c)) ∧ w = w' := by
 go_enter Tryz.func186, Tryz.ntmps186
 go_wp2
 all_goals go_ret
 all_goals refine ⟨ret_bool ?_, rfl⟩
 all_goals (rw [Bool.eq_iff_iff]; simp [letB]; try omega)
theorem digit_any (c : Int) (w : World) :
  Calls Tryz.prog 187 #[.int .u8 c] w fun e w' => e = .returned (.bool (digB c)) ∧ w = w' := by
 go_enter Tryz.func187, Tryz.ntmps187
 go_wp2
 all_goals go_ret
 all_goals refine ⟨ret_bool ?_, rfl⟩
 all_goals (rw [Bool.eq_iff_iff]; simp [digB]; try omega)
end Go.Proofs.YtijnimjmimeefaaGreat.D
