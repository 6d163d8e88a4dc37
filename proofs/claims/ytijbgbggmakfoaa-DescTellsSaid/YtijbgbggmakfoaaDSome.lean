/- What some answers. -/
import Derived.Test.YtijbgbggmakfoaaDKnown
import Derived.Test.YtijbgbggmakfoaaDArgs
namespace Go.Proofs.Ytijbgbggmakfoaa
open Go.RowKit

def pcL : List (List UInt8) := [[73], [83], [65], [86], [76, 65, 59], [76, 66, 97, 115, 101, 59], [76], [59], [40], [41], [76, 49, 59], [76, 97, 95, 50, 59], [40, 41], [76, 76, 59], [120]]
def pcZ (z : Int) : List UInt8 := pcL.getD (z % 15).toNat []
def someL (zs : List Int) : List UInt8 := zs.flatMap pcZ
def pcA : Array Value := #[.string ⟨#[73]⟩, .string ⟨#[83]⟩, .string ⟨#[65]⟩, .string ⟨#[86]⟩, .string ⟨#[76, 65, 59]⟩, .string ⟨#[76, 66, 97, 115, 101, 59]⟩, .string ⟨#[76]⟩, .string ⟨#[59]⟩, .string ⟨#[40]⟩, .string ⟨#[41]⟩, .string ⟨#[76, 49, 59]⟩, .string ⟨#[76, 97, 95, 50, 59]⟩, .string ⟨#[40, 41]⟩, .string ⟨#[76, 76, 59]⟩, .string ⟨#[120]⟩]

theorem pcZ_len (z : Int) : (pcZ z).length ≤ 6 := by
  unfold pcZ
  obtain ⟨r, hr⟩ : ∃ r, (z % 15).toNat = r := ⟨_, rfl⟩
  have hr2 : r < 15 := by omega
  rw [hr]
  revert r
  have : ∀ r : Nat, r < 15 → (pcL.getD r []).length ≤ 6 := by decide
  intro r _ h
  exact this r h

theorem someL_len (zs : List Int) : (someL zs).length ≤ zs.length * 6 := by
  unfold someL
  induction zs with
  | nil => simp
  | cons z zs ih =>
    have := pcZ_len z
    rw [List.flatMap_cons, List.length_append, List.length_cons]
    omega

theorem someL_snoc (zs : List Int) (k : Nat) (z : Int) (h : zs[k]? = some z) : someL (zs.take (k + 1)) = someL (zs.take k) ++ pcZ z := by
  obtain ⟨hk, rfl⟩ := List.getElem?_eq_some_iff.1 h
  unfold someL
  rw [List.take_succ_eq_append_getElem hk, List.flatMap_append, List.flatMap_cons, List.flatMap_nil, List.append_nil]

theorem pcA_get (z : Int) : pcA[(z % 15).toNat]? = some (.string (bx (pcZ z))) := by
  unfold pcZ
  obtain ⟨r, hr⟩ : ∃ r, (z % 15).toNat = r := ⟨_, rfl⟩
  have hr2 : r < 15 := by omega
  rw [hr]
  clear hr
  rcases r with _ | _ | _ | _ | _ | _ | _ | _ | _ | _ | _ | _ | _ | _ | _ | r <;> first | rfl | omega

set_option maxHeartbeats 1000000 in
theorem some_any (v0 : Value) (zs : List Int) (w : World) (hi : RdB w v0 zs) (hlen : zs.length ≤ 14) :
    Calls Try.prog 8 #[v0] w fun e w' => e = .returned (.string (bx (someL zs))) ∧ Below w.heap.size w w' := by
  obtain ⟨p, cap, rfl, h0, h1, h2, hr, h3⟩ := id hi
  have HR := Lib.hid hr
  have HI := Lib.hid hi
  clear hr hi h1 h2 h3
  go_enter Try.func8, Try.ntmps8
  go_wp2_with fail
  go_loop [4, 5] (fun s i => ∃ k : Nat, k ≤ zs.length ∧ i = .int .i64 k ∧ s = .string (bx (someL (zs.take k)))) (fun _ i => zs.length - (intOf i).toNat)
  case atStart => exact ⟨0, Nat.zero_le _, rfl, rfl⟩
  case round =>
    obtain ⟨k, hk, rfl, rfl⟩ := hrel
    by_cases hlt : k < zs.length
    · obtain ⟨z, hz⟩ : ∃ z, zs[k]? = some z := ⟨_, List.getElem?_eq_getElem hlt⟩
      obtain ⟨hz0, hz1⟩ := HR.out k z hz
      obtain ⟨p', cap', e', _, g1, g2, _, g3⟩ := HI.out
      simp only [Value.slice.injEq, true_and] at e'
      obtain ⟨rfl, rfl⟩ := e'
      have hne : zs ≠ [] := fun e => by subst e; simp at hlt
      obtain ⟨⟨b, off, spot⟩, rfl⟩ : ∃ a, p = some a := by
        cases p with
        | none => exact absurd (g2 rfl) hne
        | some a => exact ⟨a, rfl⟩
      obtain rfl : spot = none := g1 _ rfl hne
      have hcell := g3 _ rfl k z hz
      simp only at hcell
      have hbw := World.block_lt_of_cell? _ _ hcell
      simp only at hbw
      have hbn : ¬ b = w.heap.size := by omega
      have HS : Hid (bx (someL (zs.take (k + 1))) = bx (someL (zs.take k)) ++ bx (pcZ z)) := Lib.hid (by rw [someL_snoc zs k z hz, bx_app2, bx_data])
      have hp : ∀ (h : (z % 15).toNat < ([.string ⟨#[73]⟩, .string ⟨#[83]⟩, .string ⟨#[65]⟩, .string ⟨#[86]⟩, .string ⟨#[76, 65, 59]⟩, .string ⟨#[76, 66, 97, 115, 101, 59]⟩, .string ⟨#[76]⟩, .string ⟨#[59]⟩, .string ⟨#[40]⟩, .string ⟨#[41]⟩, .string ⟨#[76, 49, 59]⟩, .string ⟨#[76, 97, 95, 50, 59]⟩, .string ⟨#[40, 41]⟩, .string ⟨#[76, 76, 59]⟩, .string ⟨#[120]⟩] : List Value).length), ([.string ⟨#[73]⟩, .string ⟨#[83]⟩, .string ⟨#[65]⟩, .string ⟨#[86]⟩, .string ⟨#[76, 65, 59]⟩, .string ⟨#[76, 66, 97, 115, 101, 59]⟩, .string ⟨#[76]⟩, .string ⟨#[59]⟩, .string ⟨#[40]⟩, .string ⟨#[41]⟩, .string ⟨#[76, 49, 59]⟩, .string ⟨#[76, 97, 95, 50, 59]⟩, .string ⟨#[40, 41]⟩, .string ⟨#[76, 76, 59]⟩, .string ⟨#[120]⟩] : List Value)[(z % 15).toNat]'h = .string (bx (pcZ z)) := by
        intro h
        have := pcA_get z
        unfold pcA at this
        rw [List.getElem?_toArray, List.getElem?_eq_getElem h] at this
        simpa using this
      have hm0 : 0 ≤ z % 15 := by omega
      have hm1 : z % 15 < 15 := by omega
      have hs1 : (bx (someL (zs.take k))).size ≤ 84 := by
        have := someL_len (zs.take k)
        rw [bx_size]
        rw [List.length_take] at this
        omega
      have hs2 : (bx (pcZ z)).size ≤ 6 := by rw [bx_size]; exact pcZ_len z
      clear g1 g2 g3 hz hne
      go_wp2_with fail
      go_round
      case rel => exact ⟨k + 1, by omega, by go_num, by rw [HS.out]⟩
      case measure => simp [intOf]; omega
    · have hke : zs.take k = zs := List.take_of_length_le (by omega)
      rw [hke]
      clear hke
      go_wp2_with fail
      go_ret
      exact ⟨rfl, (Below.refl _ _).alloc (Nat.le_refl _) _⟩
end Go.Proofs.Ytijbgbggmakfoaa
