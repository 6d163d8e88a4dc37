/- known answers true. -/
import Derived.Test.YtijbgbggmakfoaaDRlist
import Derived.Test.YtijbgbggmakfoaaDOf
namespace Go.Proofs.Ytijbgbggmakfoaa
open Go.RowKit

theorem parse_at {s : ByteArray} {ps : List Ty} {t : Ty} {ok : Bool} (h : parseR s.data.toList = (ps, t, ok)) (w : World) (hg : Glob w) (hs : s.size ≤ 4294967280) :
    Calls Try.prog 11 #[.string s] w fun e w' => ∃ v, e = .returned (.tuple #[v, tyv t, .bool ok]) ∧ OwnT w' w.heap.size v ps ∧ Below w.heap.size w w' := by
  refine (parse_any s w hg hs).mono fun e w' ⟨v, ps', t', ok', H, he, ho, hb⟩ => ?_
  have := H.out
  rw [h] at this
  simp only [Prod.mk.injEq] at this
  obtain ⟨rfl, rfl, rfl⟩ := this
  exact ⟨v, he, ho, hb⟩

theorem one_at {s : ByteArray} {t : Ty} {ok : Bool} (h : oneR s.data.toList = (t, ok)) (w : World) (hg : Glob w) (hs : s.size ≤ 4294967280) :
    Calls Try.prog 9 #[.string s] w fun e w' => e = .returned (.tuple #[tyv t, .bool ok]) ∧ Below w.heap.size w w' := by
  refine (one_any s w hg hs).mono fun e w' ⟨he, hb⟩ => ⟨?_, hb⟩
  rw [h] at he
  exact he

def kb : ByteArray := ⟨#[40, 73, 76, 65, 59, 41, 86]⟩
def kts : List Ty := [(1, ⟨#[]⟩), (4, ⟨#[65]⟩)]

theorem k1 : parseR kb.data.toList = (kts, (5, ⟨#[]⟩), true) := by kernel_rfl
theorem k2 : parseR (⟨#[40, 86, 41, 86]⟩ : ByteArray).data.toList = ([], t0, false) := by kernel_rfl
theorem k3 : oneR (⟨#[83]⟩ : ByteArray).data.toList = ((2, ⟨#[]⟩), true) := by kernel_rfl
theorem k4 : nameB ⟨#[97, 95, 49]⟩ = true := by kernel_rfl
theorem k5 : nameB ⟨#[49, 97]⟩ = false := by kernel_rfl
theorem k6 : rightB 2 ⟨#[]⟩ = true := by kernel_rfl
theorem k7 : typeT 4 ⟨#[65]⟩ = ⟨#[76, 65, 59]⟩ := by kernel_rfl
theorem k8 : bx (ofL kts (5, ⟨#[]⟩)) = kb := by kernel_rfl
theorem k9 : (⟨#[109]⟩ : ByteArray) ++ bx (ofL [] (5, ⟨#[]⟩)) = ⟨#[109, 40, 41, 86]⟩ := by kernel_rfl
theorem k10 : sameB kts kts = true := by unfold sameB; simp
theorem k11 : sameB kts [] = false := by unfold sameB kts; simp

theorem kts_small : ∀ u ∈ kts, u.2.size ≤ 1000000 := by
  intro u hu
  simp only [kts, List.mem_cons, List.not_mem_nil, or_false] at hu
  rcases hu with rfl | rfl <;> decide

/-- what known still needs of the world -/
def KW (w : World) (r b off pc : Nat) (w' : World) : Prop :=
  r < w'.heap.size ∧ b < w'.heap.size ∧ w'.cell? ⟨r, 0, none⟩ = some (.int .i64 5) ∧ w'.cell? ⟨r, 1, none⟩ = some (.string ⟨#[]⟩) ∧ w'.cell? ⟨b, off + 2, none⟩ = some (.int .i64 4) ∧ w'.cell? ⟨b, off + 2 + 1, none⟩ = some (.string ⟨#[65]⟩) ∧
    RdT w' (.slice (some ⟨b, off, none⟩) 2 pc) kts ∧ Below w.heap.size w w'

theorem KW.next {w w' w'' : World} {r b off pc : Nat} (h : KW w r b off pc w') (hb : Below w'.heap.size w' w'') : KW w r b off pc w'' := by
  obtain ⟨h1, h2, h3, h4, h5, h6, h7, h8⟩ := h
  have hs := hb.size
  exact ⟨by omega, by omega, (hb.cell (p := ⟨r, 0, none⟩) h1).trans h3, (hb.cell (p := ⟨r, 1, none⟩) h1).trans h4, (hb.cell (p := ⟨b, off + 2, none⟩) h2).trans h5, (hb.cell (p := ⟨b, off + 2 + 1, none⟩) h2).trans h6,
    h7.below hb (Nat.le_refl _), h8.trans (hb.mono h8.size)⟩

set_option maxHeartbeats 1000000 in
set_option maxRecDepth 100000 in
theorem known_any (w : World) (hg : Glob w) : Calls Try.prog 7 #[] w fun e w' => e = .returned (.bool true) ∧ Below w.heap.size w w' := by
  go_enter Try.func7, Try.ntmps7
  go_wp2_with fail
  refine (parse_at k1 _ hg (by decide)).mono ?_
  rintro e w1 ⟨v1, rfl, ho1, hb1⟩
  obtain ⟨pa, pc, hv, g1, g2, g3⟩ := ho1.rd
  subst hv
  obtain ⟨⟨b, off, spot⟩, rfl⟩ : ∃ a, pa = some a := by
    cases pa with
    | none => exact absurd (g2 rfl) (by unfold kts; simp)
    | some a => exact ⟨a, rfl⟩
  obtain rfl : spot = none := g1 _ rfl (by unfold kts; simp)
  have hs1 := hb1.size
  have hr1 : RdT w1 (.slice (some ⟨b, off, none⟩) 2 pc) kts := ho1.rd
  have hc1 := g3 _ rfl 1 (4, ⟨#[65]⟩) rfl
  have hblt := World.block_lt_of_cell? _ _ hc1.1
  simp only [Nat.one_mul] at hc1 hblt
  rw [show tyv (5, ⟨#[]⟩) = .agg #[.int .i64 5, .string ⟨#[]⟩] from rfl, show kts.length = 2 from rfl]
  have hg1 := hg.below hb1 (Nat.le_refl _)
  clear g1 g2 g3 ho1
  go_wp2_with fail
  refine (parse_at k2 _ (hg1.alloc _) (by decide)).mono ?_
  rintro e w2 ⟨v2, rfl, _, hb2⟩
  obtain ⟨hlt2, hne2, hc20, hc21, hf20, hf21, hb12⟩ := box2 hb2
  have hs12 := hb12.size
  have K2 : KW w w1.heap.size b off pc w2 := ⟨hlt2, by omega, hc20, hc21, (hb12.cell (p := ⟨b, off + 2, none⟩) hblt).trans hc1.1, (hb12.cell (p := ⟨b, off + 2 + 1, none⟩) hblt).trans hc1.2, hr1.below hb12 (Nat.le_refl _), hb1.trans (hb12.mono hs1)⟩
  rw [show tyv t0 = .agg #[.int .i64 0, .string ⟨#[]⟩] from rfl]
  have hg2 := hg1.below hb12 (Nat.le_refl _)
  clear hb1 hb2 hb12 hc20 hc21 hf20 hf21 hne2 hlt2 hr1 hc1 hblt hg1 hs12
  go_wp2_with fail
  refine (one_at k3 _ (hg2.alloc _) (by decide)).mono ?_
  rintro e w3 ⟨rfl, hb3⟩
  obtain ⟨hlt3, hne3, hc30, hc31, hf30, hf31, hb23⟩ := box2 hb3
  rw [show tyv (2, ⟨#[]⟩) = .agg #[.int .i64 2, .string ⟨#[]⟩] from rfl]
  have K3 := K2.next hb23
  clear hb3 hb23 K2 hg2 hc30 hc31 hf30 hf31 hlt3 hne3
  have KK := K3
  obtain ⟨x1, x2, x3, x4, x5, x6, x7, x8⟩ := KK
  have y1 : ¬ w1.heap.size = w3.heap.size := by omega
  have y2 : ¬ b = w3.heap.size := by omega
  clear x7 x8
  go_wp2_with fail
  refine (name_any _ _ (by decide)).mono ?_
  rintro e w4 ⟨rfl, rfl⟩
  rw [k4]
  go_wp2_with fail
  refine (name_any _ _ (by decide)).mono ?_
  rintro e w4 ⟨rfl, rfl⟩
  rw [k5]
  go_wp2_with fail
  refine (right_any _ _ _ (by decide)).mono ?_
  rintro e w4 ⟨rfl, hb4⟩
  rw [k6]
  have K4 := K3.next (((Below.refl w3.heap.size w3).alloc (Nat.le_refl _) _).trans (hb4.mono (by simp)))
  clear x1 x2 x3 x4 x5 x6 y1 y2 K3 hb4
  have KK := K4
  obtain ⟨x1, x2, x3, x4, x5, x6, x7, x8⟩ := KK
  clear x7 x8
  go_wp2_with fail
  refine (type_any _ _ _ (by decide)).mono ?_
  rintro e w5 ⟨rfl, hb5⟩
  rw [k7]
  have K5 := K4.next hb5
  clear x1 x2 x3 x4 x5 x6 K4 hb5
  have KK := K5
  obtain ⟨x1, x2, x3, x4, x5, x6, x7, x8⟩ := KK
  have X7 := Lib.hid x7
  clear x7 x8
  go_wp2_with fail
  refine (of_any _ kts _ _ _ X7.out (by decide) kts_small (by decide)).mono ?_
  rintro e w6 ⟨rfl, hb6⟩
  rw [k8, kb]
  have K6 := K5.next hb6
  clear x1 x2 x3 x4 x5 x6 K5 hb6 X7
  have KK := K6
  obtain ⟨x1, x2, x3, x4, x5, x6, x7, x8⟩ := KK
  clear x7 x8
  go_wp2_with fail
  refine (key_any _ _ [] _ _ _ _ _ _ _ _ (OwnT.nil w6 0).rd (by decide) (by simp) (by decide) (by decide)).mono ?_
  rintro e w7 ⟨rfl, hb7⟩
  rw [k9]
  have K7 := K6.next hb7
  clear x1 x2 x3 x4 x5 x6 K6 hb7
  have KK := K7
  obtain ⟨_, _, _, _, _, _, x7, _⟩ := KK
  have X7 := Lib.hid x7
  clear x7
  go_wp2_with fail
  refine (same_any _ _ kts kts _ X7.out X7.out (by decide) (by decide)).mono ?_
  rintro e w8 ⟨rfl, hb8⟩
  rw [k10]
  have K8 := K7.next hb8
  clear K7 hb8 X7
  have KK := K8
  obtain ⟨_, _, _, _, _, _, x7, _⟩ := KK
  have X7 := Lib.hid x7
  clear x7
  go_wp2_with fail
  refine (same_any _ _ kts [] _ X7.out (OwnT.nil w8 0).rd (by decide) (by decide)).mono ?_
  rintro e w9 ⟨rfl, hb9⟩
  rw [k11]
  have K9 := K8.next hb9
  go_wp2_with fail
  go_ret
  exact ⟨rfl, K9.2.2.2.2.2.2.2⟩
end Go.Proofs.Ytijbgbggmakfoaa
