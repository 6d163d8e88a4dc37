/- What put and withRoom answer. -/
import Derived.Test.YtnpbhpidciiciaaApp
import Derived.Test.YtnpbhpidciiciaaBits
namespace Go.Proofs.Ytnpbhpidciiciaa
open Go.RowKit

theorem Own.alloc {w : World} {B : Nat} {v : Value} {l : List UInt8} (h : Own w B v l) (o : Obj) : Own (w.alloc o) B v l := World.ownsRow.alloc h o

theorem Own.lt {w : World} {B : Nat} {v : Value} {l : List UInt8} (h : Own w B v l) : ∀ k, v.ownBlock = some k → B ≤ k ∧ k < w.heap.size := World.ownsRow.lt h

theorem rd_new1 (w : World) (v : Value) (t : TypeId) (x : UInt8) (hv : v = u8 x) : Rd (w.alloc (.cells #[v] t)) (.slice (some ⟨w.heap.size, 0, none⟩) 1 1) [x] := by
  subst hv
  refine ⟨_, 1, rfl, by simp, (fun h => by cases h), fun a ha => ?_⟩
  cases ha
  intro i y hy
  match i, hy with
  | 0, hy =>
    simp at hy; subst hy
    simp [Addr.add]

set_option maxHeartbeats 400000 in
set_option maxRecDepth 100000 in
theorem put_any (B : Nat) (v0 : Value) (l : List UInt8) (n : Nat) (w : World) (hn : U64 n) (hB : B ≤ w.heap.size) (ho : Own w B v0 l) (hl : l.length ≤ 1000000) :
    Calls Try.prog 36 #[v0, .int .u64 n] w fun e w' => ∃ v, e = .returned v ∧ Own w' B v (l ++ nb n) ∧ Below B w w' := by
  go_enter Try.func36, Try.ntmps36
  go_wp2
  go_loopw [0, 1] (fun s x wr => ∃ (u : Nat) (m : List UInt8), U64 u ∧ x = .int .u64 u ∧ m.length + (nb u).length = l.length + (nb n).length ∧ m ++ nb u = l ++ nb n ∧ Own wr B s m ∧ Below B w wr) (fun _ x _ => (intOf x).toNat)
  case atStart => exact ⟨n, l, hn, rfl, rfl, rfl, ho, Below.refl _ _⟩
  case round =>
    obtain ⟨u, m, hu, rfl, hk, hm, hown, hbel⟩ := hrel
    have hp := nb_pos u
    have H := Lib.hid hk; clear hk
    have HM := Lib.hid hm; clear hm
    have hml : m.length ≤ 1000010 := by have := H.out; have := nb_len10 hn.out; omega
    have hbs : B ≤ wr.heap.size := Nat.le_trans hB hbel.size
    by_cases hlt : u < 128
    · go_wp2_with (at_builtin; refine wp_app rfl _ _ rfl B _ m rfl (hown.alloc _) _ [UInt8.ofNat u] rfl (rd_new1 _ _ _ _ ?c1) ?c2 ?c3 ?_)
      case c1 => exact (u8_ofNat (by omega)).symm
      case c2 => simp; omega
      case c3 => simp; omega
      intro v' w' h1 h2 _
      have hlt' := hown.lt
      have hfin : Own w' B v' (l ++ nb n) := by have := HM.out; rw [← this, nb_small hlt]; exact h1
      have hb' : Below B w w' := (hbel.alloc hbs _).grown h2 (by simp; omega) (fun k hk => (hlt' k hk).1)
      clear h1 h2 hown
      have HF := Lib.hid hfin; clear hfin
      go_wp2
      go_ret
      exact ⟨_, rfl, HF.out, hb'⟩
    · go_wp2_with (at_builtin; refine wp_app rfl _ _ rfl B _ m rfl (hown.alloc _) _ [goOn u] rfl (rd_new1 _ _ _ _ ?c1) ?c2 ?c3 ?_)
      case c1 => rw [u8_goOn, or128]
      case c2 => simp; omega
      case c3 => simp; omega
      intro v' w' h1 h2 _
      have hlt' := hown.lt
      have hb' : Below B w w' := (hbel.alloc hbs _).grown h2 (by simp; omega) (fun k hk => (hlt' k hk).1)
      go_wp2
      go_roundw
      case rel => exact ⟨u / 128, m ++ [goOn u], hu.div _, by go_num, by have := H.out; rw [nb_big hlt] at this; simp at this ⊢; omega, by have := HM.out; rw [nb_big hlt] at this; rw [← this]; simp [goOn], h1, hb'⟩
      case measure => simp [intOf]; omega
end Go.Proofs.Ytnpbhpidciiciaa
