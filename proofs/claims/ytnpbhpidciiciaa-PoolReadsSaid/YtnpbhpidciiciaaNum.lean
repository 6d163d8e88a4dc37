/- What Num and Two answer. -/
import Derived.Test.YtnpbhpidciiciaaRoom
namespace Go.Proofs.Ytnpbhpidciiciaa
open Go.RowKit

/-- the slice value v reads as the ints zs -/
def RdI (w : World) (v : Value) (zs : List Int) : Prop :=
  ∃ (p : Option Addr) (cap : Nat), v = .slice p zs.length cap ∧ (∀ a, p = some a → zs ≠ [] → a.spot = none) ∧ (p = none → zs = []) ∧
    (∀ (i : Nat) x, zs[i]? = some x → -9223372036854775808 ≤ x ∧ x ≤ 9223372036854775807) ∧
    ∀ a, p = some a → ∀ (i : Nat) x, zs[i]? = some x → w.cell? ⟨a.block, a.off + i, none⟩ = some (.int .i64 x)

theorem RdI.below {B : Nat} {w w' : World} {v : Value} {l : List Int} (h : RdI w v l) (hb : Below B w w') (hv : l = [] ∨ ∀ g, v.ownBlock = some g → g < B) : RdI w' v l := by
  obtain ⟨p, cap, rfl, h1, h2, hr, h3⟩ := h
  rcases hv with rfl | hv
  · exact ⟨p, cap, rfl, h1, h2, hr, fun a ha i x hx => by simp at hx⟩
  refine ⟨p, cap, rfl, h1, h2, hr, fun a ha i x hx => ?_⟩
  have hlt := hv a.block (by rw [ha]; rfl)
  rw [hb.cell (p := ⟨a.block, a.off + i, none⟩) hlt]
  exact h3 a ha i x hx

/-- the bytes of many numbers -/
def nums (zs : List Int) : List UInt8 := zs.flatMap fun z => nb (cnt z)

theorem nums_snoc (zs : List Int) (k : Nat) (z : Int) (h : zs[k]? = some z) : nums (zs.take (k + 1)) = nums (zs.take k) ++ nb (cnt z) := by
  obtain ⟨hk, rfl⟩ := List.getElem?_eq_some_iff.1 h
  rw [List.take_succ_eq_append_getElem hk, nums, nums, List.flatMap_append, List.flatMap_cons, List.flatMap_nil, List.append_nil]

theorem toNat_u64 {z : Int} (h : z ≤ 9223372036854775807) : U64 (cnt z) := Nat.lt_of_le_of_lt (m := 9223372036854775807) (by unfold cnt; omega) (by decide)

theorem nums_take_len (zs : List Int) (hz : ∀ (i : Nat) x, zs[i]? = some x → -9223372036854775808 ≤ x ∧ x ≤ 9223372036854775807) : ∀ k, (nums (zs.take k)).length ≤ 10 * k
  | 0 => by simp [nums]
  | k + 1 => by
    have ih := nums_take_len zs hz k
    cases h : zs[k]? with
    | none =>
      have hk := List.getElem?_eq_none_iff.1 h
      rw [List.take_of_length_le (by omega)]
      rw [List.take_of_length_le (by omega)] at ih
      omega
    | some z =>
      rw [nums_snoc zs k z h, List.length_append]
      have := nb_len10 (toNat_u64 (hz k z h).2).out
      omega

set_option maxHeartbeats 800000 in
set_option maxRecDepth 100000 in
theorem num_any (v0 vi : Value) (l : List UInt8) (zs : List Int) (w : World) (hr : Rd w v0 l) (hv : l = [] ∨ ∀ g, v0.ownBlock = some g → g < w.heap.size) (hl : l.length ≤ 400000)
    (hi : RdI w vi zs) (hvi : zs = [] ∨ ∀ g, vi.ownBlock = some g → g < w.heap.size) (hlz : zs.length ≤ 1000) :
    Calls Try.prog 24 #[v0, vi] w fun e w' => ∃ v, e = .returned v ∧ Own w' w.heap.size v (l ++ nums zs) ∧ Below w.heap.size w w' := by
  obtain ⟨p, cap, rfl, h1, h2, hz, hc⟩ := id hi
  have hL := nums_take_len zs hz
  by_cases hzn : zs = []
  · subst hzn
    have hr0 := hr
    go_enter Try.func24, Try.ntmps24
    go_wp2
    go_loop [5, 13] (fun s i => i = .int .i64 0 ∧ s = .int .i64 0) (fun _ _ => 0)
    case atStart => exact ⟨rfl, rfl⟩
    case round =>
      obtain ⟨rfl, rfl⟩ := hrel
      go_wp2_with fail
      refine (room_any v0 l 0 _ hr0 hv (by omega) (by omega) (by omega)).mono ?_
      rintro e w1 ⟨v1, rfl, ho1, hb1⟩
      go_wp2
      go_loop [8, 28] (fun s i => i = .int .i64 0 ∧ s = v1) (fun _ _ => 0)
      case atStart => exact ⟨rfl, rfl⟩
      case round =>
        obtain ⟨rfl, rfl⟩ := hrel
        go_wp2
        go_ret
        exact ⟨_, rfl, by simpa [nums] using ho1, hb1⟩
  · obtain ⟨ad, rfl⟩ : ∃ ad, p = some ad := by
      cases p with
      | none => exact absurd (h2 rfl) hzn
      | some ad => exact ⟨ad, rfl⟩
    obtain ⟨b, off, spot⟩ := ad
    have := h1 _ rfl hzn
    simp only at this
    subst this
    have hbw : b < w.heap.size := (hvi.resolve_left hzn) b rfl
    have hc0 := hc _ rfl
    simp only at hc0
    have HZ := Lib.hid hz
    have HC := Lib.hid hc0
    clear hz hc0 hc h1 h2 hzn
    go_enter Try.func24, Try.ntmps24
    go_wp2
    go_loop [5, 13] (fun s i => ∃ k : Nat, k ≤ zs.length ∧ i = .int .i64 k ∧ s = .int .i64 (nums (zs.take k)).length) (fun _ i => zs.length - (intOf i).toNat)
    case atStart => exact ⟨0, Nat.zero_le _, rfl, by simp [nums]⟩
    case round =>
      obtain ⟨k, hk, rfl, rfl⟩ := hrel
      by_cases hlt : k < zs.length
      · obtain ⟨z, hzk⟩ : ∃ z, zs[k]? = some z := ⟨_, List.getElem?_eq_getElem hlt⟩
        have hcell : w.cell? ⟨b, off + k, none⟩ = some (.int .i64 z) := HC.out k z hzk
        have hzb := HZ.out k z hzk
        have hzb1 := hzb.1
        have hzb2 := hzb.2
        have hus := nums_snoc zs k z hzk
        have huu := toNat_u64 hzb2
        have hwz := nb_len10 huu.out
        have hLk := hL k
        have HU := Lib.hid hus
        clear hzb hus hzk
        go_wp2_with fail
        refine (count_any z _ hzb1 hzb2).mono ?_
        rintro e w' ⟨rfl, rfl⟩
        go_wp2_with fail
        refine (width_any _ _ huu).mono ?_
        rintro e w' ⟨rfl, rfl⟩
        go_wp2
        go_round
        case rel => exact ⟨k + 1, by omega, by go_num, by rw [HU.out, List.length_append]; go_num⟩
        case measure => simp [intOf]; omega
      · have hLk := hL k
        go_wp2_with fail
        refine (room_any v0 l _ _ hr hv (by omega) (by omega) (by omega)).mono ?_
        rintro e w1 ⟨v1, rfl, ho1, hb1⟩
        have hs1 := hb1.size
        go_wp2
        go_loopw [8, 28] (fun s i wr => ∃ k : Nat, k ≤ zs.length ∧ i = .int .i64 k ∧ Own wr w.heap.size s (l ++ nums (zs.take k)) ∧ Below w.heap.size w wr) (fun _ i _ => zs.length - (intOf i).toNat)
        case atStart => exact ⟨0, Nat.zero_le _, rfl, by simpa [nums] using ho1, hb1⟩
        case round =>
          clear ho1 hb1 hs1 hLk
          obtain ⟨k, hk, rfl, ho, hbl⟩ := hrel
          have hsr := hbl.size
          by_cases hlt : k < zs.length
          · obtain ⟨z, hzk⟩ : ∃ z, zs[k]? = some z := ⟨_, List.getElem?_eq_getElem hlt⟩
            have hcell : wr.cell? ⟨b, off + k, none⟩ = some (.int .i64 z) := (hbl.cell (p := ⟨b, off + k, none⟩) hbw).trans (HC.out k z hzk)
            have hzb := HZ.out k z hzk
            have hzb1 := hzb.1
            have hzb2 := hzb.2
            have huu := toNat_u64 hzb2
            have hLk := hL k
            have hlen : (l ++ nums (zs.take k)).length ≤ 1000000 := by rw [List.length_append]; omega
            have HU := Lib.hid (nums_snoc zs k z hzk)
            have HO := Lib.hid ho
            clear hzb hzk ho
            go_wp2_with fail
            refine (count_any z _ hzb1 hzb2).mono ?_
            rintro e w' ⟨rfl, rfl⟩
            go_wp2_with fail
            refine (put_any _ _ _ _ _ huu hsr HO.out hlen).mono ?_
            rintro e w2 ⟨v2, rfl, ho2, hb2⟩
            have HO2 := Lib.hid ho2
            have hb3 := hbl.trans hb2
            clear ho2
            go_wp2
            go_roundw
            case rel => exact ⟨k + 1, by omega, by go_num, by rw [HU.out, ← List.append_assoc]; exact HO2.out, hb3⟩
            case measure => simp [intOf]; omega
          · have HO := Lib.hid ho
            clear ho
            go_wp2
            go_ret
            exact ⟨_, rfl, by have := HO.out; rw [List.take_of_length_le (by omega)] at this; exact this, hbl⟩

end Go.Proofs.Ytnpbhpidciiciaa
