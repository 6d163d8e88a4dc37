/- What the answers' own Num, Int, Text, Two come to. -/
import Derived.Test.YtnpbhpidciiciaaPlain
import Derived.Laws.Bits128
namespace Go.Proofs.Ytnpbhpidciiciaa
open Go.RowKit

/-- v fits an int -/
def U63 (v : Nat) : Prop := v ≤ 9223372036854775807
theorem U63.div {v : Nat} (h : U63 v) (k : Nat) : U63 (v / k) := Nat.le_trans (Nat.div_le_self v k) h

theorem and127i (u : Nat) : bits .and .i64 (u : Int) 127 = (u : Int) % 128 := i64_and127 u
theorem or128m (u : Nat) : bits .or .u8 ((u : Int) % 128) 128 = (u : Int) % 128 + 128 := by
  have h := or128s (u % 128) (by omega)
  have e : ((u % 128 : Nat) : Int) = (u : Int) % 128 := by omega
  rw [e] at h
  rw [h]
  omega

set_option maxHeartbeats 1000000 in
set_option maxRecDepth 100000 in
theorem fnum_some (v0 : Value) (l : List UInt8) (zs : List Int) (b off c : Nat) (w : World) (hr : Rd w v0 l) (hl : l.length ≤ 400000) (hlz : zs.length ≤ 1000)
    (hz : ∀ (i : Nat) x, zs[i]? = some x → -9223372036854775808 ≤ x ∧ x ≤ 9223372036854775807) (hbw : b < w.heap.size)
    (hc : ∀ (i : Nat) x, zs[i]? = some x → w.cell? ⟨b, off + i, none⟩ = some (.int .i64 x)) :
    Calls Try.prog 16 #[v0, .slice (some ⟨b, off, none⟩) zs.length c] w fun e w' => ∃ v, e = .returned v ∧ Own w' w.heap.size v (l ++ nums zs) ∧ Below w.heap.size w w' := by
  have hL := nums_take_len zs hz
  have HZ := Lib.hid hz
  have HC := Lib.hid hc
  clear hz hc
  go_enter Try.func16, Try.ntmps16
  go_wp2_with (at_builtin; refine wp_app rfl _ _ rfl w.heap.size _ [] rfl (World.ownsRow_nil _ _ _ _) _ l rfl hr ?d1 ?d2 ?_)
  case d1 => simp; omega
  case d2 => exact Nat.le_refl _
  intro v1 w1 ho1 hg1 _
  have hB1 : Below w.heap.size w w1 := (Below.refl _ w).grown hg1 (Nat.le_refl _) (by intro k hk; cases hk)
  clear hg1
  go_wp2
  go_loopw [5, 6] (fun s i wr => ∃ k : Nat, i = .int .i64 k ∧ k ≤ zs.length ∧ Own wr w.heap.size s (l ++ nums (zs.take k)) ∧ Below w.heap.size w wr) (fun _ i _ => zs.length - (intOf i).toNat)
  case atStart => exact ⟨0, rfl, Nat.zero_le _, by simpa [nums] using ho1, hB1⟩
  case round =>
    clear ho1 hB1
    obtain ⟨k, rfl, hk, ho, hB⟩ := hrel
    have hs := hB.size
    by_cases hlt : k < zs.length
    · obtain ⟨z, hzk⟩ : ∃ z, zs[k]? = some z := ⟨_, List.getElem?_eq_getElem hlt⟩
      have hcell : wr.cell? ⟨b, off + k, none⟩ = some (.int .i64 z) := (hB.cell (p := ⟨b, off + k, none⟩) hbw).trans (HC.out k z hzk)
      have hzb := HZ.out k z hzk
      have hzb1 := hzb.1
      have hzb2 := hzb.2
      have hLk := hL k
      have hlen : (l ++ nums (zs.take k)).length ≤ 900000 := by rw [List.length_append]; omega
      have HU := Lib.hid (nums_snoc zs k z hzk)
      have hu := toNat_u64 hzb2
      have hul := nb_len10 hu.out
      have hu63 : U63 (cnt z) := by unfold U63 cnt; omega
      clear hzb hzk
      obtain ⟨wo, hwo⟩ : ∃ wo : World, wo = wr := ⟨_, rfl⟩
      subst hwo
      by_cases hpos : 0 ≤ z
      · go_wp2
        go_loopw [5, 7] (fun s n wr => ∃ (u : Nat) (m : List UInt8), U63 u ∧ n = .int .i64 u ∧ m.length + (nb u).length = (l ++ nums (zs.take k)).length + (nb (cnt z)).length ∧ m ++ nb u = (l ++ nums (zs.take k)) ++ nb (cnt z) ∧ Own wr w.heap.size s m ∧ Below w.heap.size w wr) (fun _ n _ => (intOf n).toNat)
        case atStart => exact ⟨cnt z, _, hu63, int_eq (by unfold cnt; omega), rfl, rfl, ho, hB⟩
        case round =>
          clear ho hB hs hcell
          obtain ⟨u, m, hu3, rfl, hkl, hm, ho, hB⟩ := hrel
          have hs := hB.size
          have hp := nb_pos u
          have hml : m.length ≤ 950000 := by omega
          have hand := and127i u
          have hor := or128m u
          have HM := Lib.hid hm
          have HK := Lib.hid hkl
          clear hm hkl
          by_cases hu1 : u < 128
          · go_wp2_with (at_builtin; refine wp_app rfl _ _ rfl w.heap.size _ m rfl (ho.alloc _) _ [UInt8.ofNat u] rfl (rd_new1 _ _ _ _ ?c1) ?c2 ?c3 ?_)
            case c1 => exact (u8_ofNat (by omega)).symm
            case c2 => simp; omega
            case c3 => simp; omega
            intro v2 w2 ho2 hg2 _
            have hB2 : Below w.heap.size w w2 := (hB.alloc hs _).grown hg2 (by simp; omega) (fun k hk => (ho.lt k hk).1)
            have ho3 : Own w2 w.heap.size v2 (l ++ nums (zs.take (k + 1))) := by
              have := HM.out
              rw [nb_small hu1] at this
              rw [HU.out, ← List.append_assoc, ← this]
              exact ho2
            clear ho2 hg2 ho hB hs hand hor
            go_wp2
            go_roundw
            case rel => exact ⟨k + 1, by go_num, by omega, ho3, hB2⟩
            case measure => simp [intOf]; omega
          · go_wp2_with (at_builtin; refine wp_app rfl _ _ rfl w.heap.size _ m rfl (ho.alloc _) _ [goOn u] rfl (rd_new1 _ _ _ _ ?c1) ?c2 ?c3 ?_)
            case c1 => rw [u8_goOn]; exact int_eq (by omega)
            case c2 => simp; omega
            case c3 => simp; omega
            intro v2 w2 ho2 hg2 _
            have hB2 : Below w.heap.size w w2 := (hB.alloc hs _).grown hg2 (by simp; omega) (fun k hk => (ho.lt k hk).1)
            clear hg2 ho hB hs hand hor
            go_wp2
            go_roundw
            case rel => exact ⟨u / 128, m ++ [goOn u], hu3.div _, by go_num, by have := HK.out; rw [nb_big hu1] at this; simp at this ⊢; omega, by have := HM.out; rw [nb_big hu1] at this; rw [← this]; simp [goOn], ho2, hB2⟩
            case measure => simp [intOf]; omega
      · go_wp2
        go_loopw [5, 7] (fun s n wr => ∃ (u : Nat) (m : List UInt8), U63 u ∧ n = .int .i64 u ∧ m.length + (nb u).length = (l ++ nums (zs.take k)).length + (nb (cnt z)).length ∧ m ++ nb u = (l ++ nums (zs.take k)) ++ nb (cnt z) ∧ Own wr w.heap.size s m ∧ Below w.heap.size w wr) (fun _ n _ => (intOf n).toNat)
        case atStart => exact ⟨cnt z, _, hu63, int_eq (by unfold cnt; omega), rfl, rfl, ho, hB⟩
        case round =>
          clear ho hB hs hcell
          obtain ⟨u, m, hu3, rfl, hkl, hm, ho, hB⟩ := hrel
          have hs := hB.size
          have hp := nb_pos u
          have hml : m.length ≤ 950000 := by omega
          have hand := and127i u
          have hor := or128m u
          have HM := Lib.hid hm
          have HK := Lib.hid hkl
          clear hm hkl
          by_cases hu1 : u < 128
          · go_wp2_with (at_builtin; refine wp_app rfl _ _ rfl w.heap.size _ m rfl (ho.alloc _) _ [UInt8.ofNat u] rfl (rd_new1 _ _ _ _ ?c1) ?c2 ?c3 ?_)
            case c1 => exact (u8_ofNat (by omega)).symm
            case c2 => simp; omega
            case c3 => simp; omega
            intro v2 w2 ho2 hg2 _
            have hB2 : Below w.heap.size w w2 := (hB.alloc hs _).grown hg2 (by simp; omega) (fun k hk => (ho.lt k hk).1)
            have ho3 : Own w2 w.heap.size v2 (l ++ nums (zs.take (k + 1))) := by
              have := HM.out
              rw [nb_small hu1] at this
              rw [HU.out, ← List.append_assoc, ← this]
              exact ho2
            clear ho2 hg2 ho hB hs hand hor
            go_wp2
            go_roundw
            case rel => exact ⟨k + 1, by go_num, by omega, ho3, hB2⟩
            case measure => simp [intOf]; omega
          · go_wp2_with (at_builtin; refine wp_app rfl _ _ rfl w.heap.size _ m rfl (ho.alloc _) _ [goOn u] rfl (rd_new1 _ _ _ _ ?c1) ?c2 ?c3 ?_)
            case c1 => rw [u8_goOn]; exact int_eq (by omega)
            case c2 => simp; omega
            case c3 => simp; omega
            intro v2 w2 ho2 hg2 _
            have hB2 : Below w.heap.size w w2 := (hB.alloc hs _).grown hg2 (by simp; omega) (fun k hk => (ho.lt k hk).1)
            clear hg2 ho hB hs hand hor
            go_wp2
            go_roundw
            case rel => exact ⟨u / 128, m ++ [goOn u], hu3.div _, by go_num, by have := HK.out; rw [nb_big hu1] at this; simp at this ⊢; omega, by have := HM.out; rw [nb_big hu1] at this; rw [← this]; simp [goOn], ho2, hB2⟩
            case measure => simp [intOf]; omega
    · go_wp2
      go_ret
      exact ⟨_, rfl, by rw [List.take_of_length_le (by omega)] at ho; exact ho, hB⟩

end Go.Proofs.Ytnpbhpidciiciaa
