/- Texts that the proof is made of, joined. No condition. -/
import Derived.Test.YtlmpnmnfloeoiaaGreatC1023
import Derived.Test.YtlmpnmnfloeoiaaGreatC10H
set_option linter.unusedVariables false
set_option linter.unusedSimpArgs false
set_option maxRecDepth 100000
set_option maxHeartbeats 16000000
namespace Go.Proofs.YtlmpnmnfloeoiaaGreat.R
open Go.RowKit Go.Proofs.YtlmpnmnfloeoiaaGreat.D Go.Proofs.YtlmpnmnfloeoiaaGreat.O Go.Proofs.YtlmpnmnfloeoiaaGreat.A
def memA (K : Int) (fs : List Fld) (ms : List Mth) : List Cls := [⟨⟨#[67]⟩, ⟨#[79, 98, 106, 101, 99, 116]⟩, [], K, fs, ms⟩]
theorem mem_rd {W : World} {g : Nat} {K : Int} {vf vm : Value} {fs : List Fld} {ms : List Mth} (hc : W.heap[g]? = some (.cells #[.string ⟨#[67]⟩, .string ⟨#[79, 98, 106, 101, 99, 116]⟩, .slice none 0 0, .int .i64 K, vf, vm] 27 (0, 0))) (hf : RdX 4 (sP fldC) anyB W vf fs) (hm : RdX 9 mP anyB W vm ms) : RdX 6 cP anyB W (.slice (some ⟨g, 0, none⟩) (memA K fs ms).length 1) (memA K fs ms) :=
  rd_block (P := cP) [[.string ⟨#[67]⟩, .string ⟨#[79, 98, 106, 101, 99, 116]⟩, .slice none 0 0, .int .i64 K, vf, vm]] (memA K fs ms) _ hc rfl trivial ⟨⟨⟨_, _, _, rfl, RdX.nil _ _ _ _, hf, hm⟩, rfl⟩, trivial⟩ 1 1 rfl (Nat.le_refl _)
theorem mem_t0 (K : Int) (h : K = 1 ∨ K = 2 ∨ K = 3 ∨ K = 4) : hkB (memA K [(⟨#[102]⟩, (1, ⟨#[]⟩), false), (⟨#[102]⟩, (2, ⟨#[]⟩), true)] []) = true ∧ checkK (memA K [(⟨#[102]⟩, (1, ⟨#[]⟩), false), (⟨#[102]⟩, (2, ⟨#[]⟩), true)] []) = if true = true then (0, 25) else (0, 0) := by
  rcases h with rfl | rfl | rfl | rfl <;> exact ⟨by kernel_rfl, by kernel_rfl⟩
set_option maxHeartbeats 8000000 in
set_option maxRecDepth 100000 in
theorem mem_0 (kind what : Nat) (w : World) (hk : kind < 256) (hwl : what < 256) (hw : what % 9 = 0) :
    Calls Tryz.prog 6 #[.int .u8 (kind : Int), .int .u8 (what : Int)] w fun e w' => e = .returned (.bool true) ∧ Below w.heap.size w w' := by
  go_enter Tryz.func6, Tryz.ntmps6
  try simp only [List.append_eq, List.cons_append, List.nil_append]
  go_wp2_with fail
  refine (known_10 w).mono ?_
  rintro e w1 ⟨rfl, hb1⟩
  obtain ⟨kk, hkk, hkl⟩ : ∃ kk : Nat, (kind : Int).tmod 4 = (kk : Int) ∧ kk < 4 := ⟨kind % 4, by rw [Int.tmod_eq_emod_of_nonneg (Int.natCast_nonneg kind)]; omega, by omega⟩
  have hw9 : (what : Int).tmod 9 = 0 := by rw [Int.tmod_eq_emod_of_nonneg (Int.natCast_nonneg what)]; omega
  have v1 : IntKind.i64.wrap (kk : Int) = kk := IntWalk.i64_in _ (by omega)
  have v2 : IntKind.i64.wrap ((kk : Int) + 1) = (kk : Int) + 1 := IntWalk.i64_in _ (by omega)
  have HKK : Hid ((kk : Int) + 1 = 1 ∨ (kk : Int) + 1 = 2 ∨ (kk : Int) + 1 = 3 ∨ (kk : Int) + 1 = 4) := Lib.hid (by omega)
  obtain ⟨w2, hw2⟩ : ∃ x, x = w1.alloc (.cells #[.string ⟨#[67]⟩, .string ⟨#[79, 98, 106, 101, 99, 116]⟩, .slice none 0 0, .int .i64 ((kk : Int) + 1), .slice none 0 0, .slice none 0 0] 27) := ⟨_, rfl⟩
  have HX2 : Hid (w2.heap[w1.heap.size]? = some (.cells #[.string ⟨#[67]⟩, .string ⟨#[79, 98, 106, 101, 99, 116]⟩, .slice none 0 0, .int .i64 ((kk : Int) + 1), .slice none 0 0, .slice none 0 0] 27 (0, 0))) := Lib.hid (by rw [hw2]; exact heap_alloc_new _ _)
  have HB2 : Hid (Below w.heap.size w w2) := Lib.hid (by rw [hw2]; exact hb1.trans ((below_alR _ _).mono hb1.size))
  have HGE := Lib.hid hb1.size
  clear hb1
  go_upto_region 4 with fail
  rw [← hw2]
  clear hw2 v1 v2 hkk
  obtain ⟨xb, hxb⟩ : ∃ z, w1.heap.size = z := ⟨_, rfl⟩
  rw [hxb] at HX2 HGE ⊢
  clear hxb
  obtain ⟨K, hK⟩ : ∃ z, (kk : Int) + 1 = z := ⟨_, rfl⟩
  rw [hK] at HX2 HKK
  try rw [hK]
  clear hK hkl
  obtain ⟨x_l, x_c, x_f⟩ := boxN HX2.out
  have x_3 := x_c 3 _ rfl
  have x_s := x_c 4 _ rfl
  have x_z := x_f 4
  simp only [Nat.zero_add] at x_3 x_s
  clear x_c x_f
  go_upto_region 10 with fail
  have k5 : Kpt [xb] w2 (w2.setCell ⟨xb, 4, none⟩ (.slice (some ⟨w2.heap.size, 0, none⟩) 2 2)) := Kpt.set _ _ _ _ _ (by simp)
  obtain ⟨w5, hw5⟩ : ∃ x, x = (w2.setCell ⟨xb, 4, none⟩ (.slice (some ⟨w2.heap.size, 0, none⟩) 2 2)).alloc (.cells #[.string ⟨#[102]⟩, .int .i64 1, .string ⟨#[]⟩, .bool false, .string ⟨#[102]⟩, .int .i64 2, .string ⟨#[]⟩, .bool true] 51) := ⟨_, rfl⟩
  have c5 : Below w2.heap.size (w2.setCell ⟨xb, 4, none⟩ (.slice (some ⟨w2.heap.size, 0, none⟩) 2 2)) w5 := by rw [hw5]; exact (below_alR _ _).mono (by simp)
  have HX5 : Hid (w5.heap[xb]? = some (.cells #[.string ⟨#[67]⟩, .string ⟨#[79, 98, 106, 101, 99, 116]⟩, .slice none 0 0, .int .i64 K, .slice (some ⟨w2.heap.size, 0, none⟩) 2 2, .slice none 0 0] 27 (0, 0))) := Lib.hid (by rw [c5.block _ x_l, heap_setCell_same _ _ 4 _ _ _ HX2.out]; rfl)
  have HM5 : Hid (w5.heap[w2.heap.size]? = some (.cells #[.string ⟨#[102]⟩, .int .i64 1, .string ⟨#[]⟩, .bool false, .string ⟨#[102]⟩, .int .i64 2, .string ⟨#[]⟩, .bool true] 51 (0, 0))) := Lib.hid (by rw [hw5]; have := heap_alloc_new (w2.setCell ⟨xb, 4, none⟩ (.slice (some ⟨w2.heap.size, 0, none⟩) 2 2)) (.cells #[.string ⟨#[102]⟩, .int .i64 1, .string ⟨#[]⟩, .bool false, .string ⟨#[102]⟩, .int .i64 2, .string ⟨#[]⟩, .bool true] 51); rwa [World.size_setCell] at this)
  have HB5 : Hid (Below w.heap.size w w5) := Lib.hid ((HB2.out.trans (k5.below (B := w.heap.size) (fun x hx => by simp at hx; have := HGE.out; omega) HB2.out.size)).trans (c5.mono HB2.out.size))
  clear k5 c5 HB2
  go_upto_region 11 with fail
  rw [← hw5]
  clear hw5 x_l x_3 x_s x_z HX2
  obtain ⟨g, hg⟩ : ∃ z, w2.heap.size = z := ⟨_, rfl⟩
  rw [hg] at HX5 HM5
  try rw [hg]
  clear hg
  obtain ⟨x_l, x_c, -⟩ := boxN HX5.out
  have x_0 := x_c 0 _ rfl
  have x_1 := x_c 1 _ rfl
  have x_2 := x_c 2 _ rfl
  have x_3 := x_c 3 _ rfl
  have x_4 := x_c 4 _ rfl
  have x_5 := x_c 5 _ rfl
  simp only [Nat.zero_add] at x_0 x_1 x_2 x_3 x_4 x_5
  clear x_c
  go_upto_region 33 with fail
  obtain ⟨w6, hw6⟩ : ∃ x, x = w5.alloc (.cells #[.string ⟨#[67]⟩, .string ⟨#[79, 98, 106, 101, 99, 116]⟩, .slice none 0 0, .int .i64 K, .slice (some ⟨g, 0, none⟩) 2 2, .slice none 0 0] 27) := ⟨_, rfl⟩
  have c6 : Below w5.heap.size w5 w6 := by rw [hw6]; exact below_alR _ _
  have HM9 := (c6.block _ (Array.getElem?_eq_some_iff.1 HM5.out).1).trans HM5.out
  have hck := check_h (memA K [(⟨#[102]⟩, (1, ⟨#[]⟩), false), (⟨#[102]⟩, (2, ⟨#[]⟩), true)] []) (some ⟨w5.heap.size, 0, none⟩) 1 anyB w6 (mem_rd (by rw [hw6]; exact heap_alloc_new _ _) (rd_block (P := sP fldC) [[.string ⟨#[102]⟩, .int .i64 1, .string ⟨#[]⟩, .bool false], [.string ⟨#[102]⟩, .int .i64 2, .string ⟨#[]⟩, .bool true]] [(⟨#[102]⟩, (1, ⟨#[]⟩), false), (⟨#[102]⟩, (2, ⟨#[]⟩), true)] _ HM9 rfl trivial ⟨⟨rfl, rfl⟩, ⟨rfl, rfl⟩, trivial⟩ 2 2 rfl (Nat.le_refl _)) (RdX.nil _ _ _ _)) (ckA_of (mem_t0 K HKK.out).1)
  rw [show (memA K [(⟨#[102]⟩, (1, ⟨#[]⟩), false), (⟨#[102]⟩, (2, ⟨#[]⟩), true)] []).length = 1 from rfl, (mem_t0 K HKK.out).2] at hck
  have HCK := Lib.hid hck
  have HB6 := Lib.hid (HB5.out.trans (c6.mono HB5.out.size))
  clear hck HM9 c6 HB5 HM5 HX5
  go_wp2_with fail
  rw [← hw6]
  clear hw6
  have hck := HCK.out
  have hkk := HKK.out
  clear HCK HKK
  rcases hkk with rfl | rfl | rfl | rfl
  all_goals
    simp at hck
    refine hck.mono ?_
    rintro e w7 ⟨rfl, hb7⟩
    have HB7 := Lib.hid (HB6.out.trans (hb7.mono HB6.out.size))
    clear hck hb7 x_l x_0 x_1 x_2 x_3 x_4 x_5
    go_wp2_with fail
    go_ret
    exact ⟨rfl, HB7.out⟩
theorem mem_t1 (K : Int) (h : K = 1 ∨ K = 2 ∨ K = 3 ∨ K = 4) : hkB (memA K [(⟨#[102]⟩, (4, ⟨#[67]⟩), false)] []) = true ∧ checkK (memA K [(⟨#[102]⟩, (4, ⟨#[67]⟩), false)] []) = if (K == 4) = true then (0, 25) else (0, 0) := by
  rcases h with rfl | rfl | rfl | rfl <;> exact ⟨by kernel_rfl, by kernel_rfl⟩
set_option maxHeartbeats 8000000 in
set_option maxRecDepth 100000 in
theorem mem_1 (kind what : Nat) (w : World) (hk : kind < 256) (hwl : what < 256) (hw : what % 9 = 1) :
    Calls Tryz.prog 6 #[.int .u8 (kind : Int), .int .u8 (what : Int)] w fun e w' => e = .returned (.bool true) ∧ Below w.heap.size w w' := by
  go_enter Tryz.func6, Tryz.ntmps6
  try simp only [List.append_eq, List.cons_append, List.nil_append]
  go_wp2_with fail
  refine (known_10 w).mono ?_
  rintro e w1 ⟨rfl, hb1⟩
  obtain ⟨kk, hkk, hkl⟩ : ∃ kk : Nat, (kind : Int).tmod 4 = (kk : Int) ∧ kk < 4 := ⟨kind % 4, by rw [Int.tmod_eq_emod_of_nonneg (Int.natCast_nonneg kind)]; omega, by omega⟩
  have hw9 : (what : Int).tmod 9 = 1 := by rw [Int.tmod_eq_emod_of_nonneg (Int.natCast_nonneg what)]; omega
  have v1 : IntKind.i64.wrap (kk : Int) = kk := IntWalk.i64_in _ (by omega)
  have v2 : IntKind.i64.wrap ((kk : Int) + 1) = (kk : Int) + 1 := IntWalk.i64_in _ (by omega)
  have HKK : Hid ((kk : Int) + 1 = 1 ∨ (kk : Int) + 1 = 2 ∨ (kk : Int) + 1 = 3 ∨ (kk : Int) + 1 = 4) := Lib.hid (by omega)
  obtain ⟨w2, hw2⟩ : ∃ x, x = w1.alloc (.cells #[.string ⟨#[67]⟩, .string ⟨#[79, 98, 106, 101, 99, 116]⟩, .slice none 0 0, .int .i64 ((kk : Int) + 1), .slice none 0 0, .slice none 0 0] 27) := ⟨_, rfl⟩
  have HX2 : Hid (w2.heap[w1.heap.size]? = some (.cells #[.string ⟨#[67]⟩, .string ⟨#[79, 98, 106, 101, 99, 116]⟩, .slice none 0 0, .int .i64 ((kk : Int) + 1), .slice none 0 0, .slice none 0 0] 27 (0, 0))) := Lib.hid (by rw [hw2]; exact heap_alloc_new _ _)
  have HB2 : Hid (Below w.heap.size w w2) := Lib.hid (by rw [hw2]; exact hb1.trans ((below_alR _ _).mono hb1.size))
  have HGE := Lib.hid hb1.size
  clear hb1
  go_upto_region 4 with fail
  rw [← hw2]
  clear hw2 v1 v2 hkk
  obtain ⟨xb, hxb⟩ : ∃ z, w1.heap.size = z := ⟨_, rfl⟩
  rw [hxb] at HX2 HGE ⊢
  clear hxb
  obtain ⟨K, hK⟩ : ∃ z, (kk : Int) + 1 = z := ⟨_, rfl⟩
  rw [hK] at HX2 HKK
  try rw [hK]
  clear hK hkl
  obtain ⟨x_l, x_c, x_f⟩ := boxN HX2.out
  have x_3 := x_c 3 _ rfl
  have x_s := x_c 4 _ rfl
  have x_z := x_f 4
  simp only [Nat.zero_add] at x_3 x_s
  clear x_c x_f
  go_upto_region 13 with fail
  have k5 : Kpt [xb] w2 (w2.setCell ⟨xb, 4, none⟩ (.slice (some ⟨w2.heap.size, 0, none⟩) 1 1)) := Kpt.set _ _ _ _ _ (by simp)
  obtain ⟨w5, hw5⟩ : ∃ x, x = (w2.setCell ⟨xb, 4, none⟩ (.slice (some ⟨w2.heap.size, 0, none⟩) 1 1)).alloc (.cells #[.string ⟨#[102]⟩, .int .i64 4, .string ⟨#[67]⟩, .bool false] 51) := ⟨_, rfl⟩
  have c5 : Below w2.heap.size (w2.setCell ⟨xb, 4, none⟩ (.slice (some ⟨w2.heap.size, 0, none⟩) 1 1)) w5 := by rw [hw5]; exact (below_alR _ _).mono (by simp)
  have HX5 : Hid (w5.heap[xb]? = some (.cells #[.string ⟨#[67]⟩, .string ⟨#[79, 98, 106, 101, 99, 116]⟩, .slice none 0 0, .int .i64 K, .slice (some ⟨w2.heap.size, 0, none⟩) 1 1, .slice none 0 0] 27 (0, 0))) := Lib.hid (by rw [c5.block _ x_l, heap_setCell_same _ _ 4 _ _ _ HX2.out]; rfl)
  have HM5 : Hid (w5.heap[w2.heap.size]? = some (.cells #[.string ⟨#[102]⟩, .int .i64 4, .string ⟨#[67]⟩, .bool false] 51 (0, 0))) := Lib.hid (by rw [hw5]; have := heap_alloc_new (w2.setCell ⟨xb, 4, none⟩ (.slice (some ⟨w2.heap.size, 0, none⟩) 1 1)) (.cells #[.string ⟨#[102]⟩, .int .i64 4, .string ⟨#[67]⟩, .bool false] 51); rwa [World.size_setCell] at this)
  have HB5 : Hid (Below w.heap.size w w5) := Lib.hid ((HB2.out.trans (k5.below (B := w.heap.size) (fun x hx => by simp at hx; have := HGE.out; omega) HB2.out.size)).trans (c5.mono HB2.out.size))
  clear k5 c5 HB2
  go_upto_region 14 with fail
  rw [← hw5]
  clear hw5 x_l x_3 x_s x_z HX2
  obtain ⟨g, hg⟩ : ∃ z, w2.heap.size = z := ⟨_, rfl⟩
  rw [hg] at HX5 HM5
  try rw [hg]
  clear hg
  obtain ⟨x_l, x_c, -⟩ := boxN HX5.out
  have x_0 := x_c 0 _ rfl
  have x_1 := x_c 1 _ rfl
  have x_2 := x_c 2 _ rfl
  have x_3 := x_c 3 _ rfl
  have x_4 := x_c 4 _ rfl
  have x_5 := x_c 5 _ rfl
  simp only [Nat.zero_add] at x_0 x_1 x_2 x_3 x_4 x_5
  clear x_c
  go_upto_region 33 with fail
  obtain ⟨w6, hw6⟩ : ∃ x, x = w5.alloc (.cells #[.string ⟨#[67]⟩, .string ⟨#[79, 98, 106, 101, 99, 116]⟩, .slice none 0 0, .int .i64 K, .slice (some ⟨g, 0, none⟩) 1 1, .slice none 0 0] 27) := ⟨_, rfl⟩
  have c6 : Below w5.heap.size w5 w6 := by rw [hw6]; exact below_alR _ _
  have HM9 := (c6.block _ (Array.getElem?_eq_some_iff.1 HM5.out).1).trans HM5.out
  have hck := check_h (memA K [(⟨#[102]⟩, (4, ⟨#[67]⟩), false)] []) (some ⟨w5.heap.size, 0, none⟩) 1 anyB w6 (mem_rd (by rw [hw6]; exact heap_alloc_new _ _) (rd_block (P := sP fldC) [[.string ⟨#[102]⟩, .int .i64 4, .string ⟨#[67]⟩, .bool false]] [(⟨#[102]⟩, (4, ⟨#[67]⟩), false)] _ HM9 rfl trivial ⟨⟨rfl, rfl⟩, trivial⟩ 1 1 rfl (Nat.le_refl _)) (RdX.nil _ _ _ _)) (ckA_of (mem_t1 K HKK.out).1)
  rw [show (memA K [(⟨#[102]⟩, (4, ⟨#[67]⟩), false)] []).length = 1 from rfl, (mem_t1 K HKK.out).2] at hck
  have HCK := Lib.hid hck
  have HB6 := Lib.hid (HB5.out.trans (c6.mono HB5.out.size))
  clear hck HM9 c6 HB5 HM5 HX5
  go_wp2_with fail
  rw [← hw6]
  clear hw6
  have hck := HCK.out
  have hkk := HKK.out
  clear HCK HKK
  rcases hkk with rfl | rfl | rfl | rfl
  all_goals
    simp at hck
    refine hck.mono ?_
    rintro e w7 ⟨rfl, hb7⟩
    have HB7 := Lib.hid (HB6.out.trans (hb7.mono HB6.out.size))
    clear hck hb7 x_l x_0 x_1 x_2 x_3 x_4 x_5
    go_wp2_with fail
    go_ret
    exact ⟨rfl, HB7.out⟩
theorem mem_t2 (K : Int) (h : K = 1 ∨ K = 2 ∨ K = 3 ∨ K = 4) : hkB (memA K [(⟨#[102]⟩, (4, ⟨#[68]⟩), false)] []) = true ∧ checkK (memA K [(⟨#[102]⟩, (4, ⟨#[68]⟩), false)] []) = if true = true then (0, 25) else (0, 0) := by
  rcases h with rfl | rfl | rfl | rfl <;> exact ⟨by kernel_rfl, by kernel_rfl⟩
set_option maxHeartbeats 8000000 in
set_option maxRecDepth 100000 in
theorem mem_2 (kind what : Nat) (w : World) (hk : kind < 256) (hwl : what < 256) (hw : what % 9 = 2) :
    Calls Tryz.prog 6 #[.int .u8 (kind : Int), .int .u8 (what : Int)] w fun e w' => e = .returned (.bool true) ∧ Below w.heap.size w w' := by
  go_enter Tryz.func6, Tryz.ntmps6
  try simp only [List.append_eq, List.cons_append, List.nil_append]
  go_wp2_with fail
  refine (known_10 w).mono ?_
  rintro e w1 ⟨rfl, hb1⟩
  obtain ⟨kk, hkk, hkl⟩ : ∃ kk : Nat, (kind : Int).tmod 4 = (kk : Int) ∧ kk < 4 := ⟨kind % 4, by rw [Int.tmod_eq_emod_of_nonneg (Int.natCast_nonneg kind)]; omega, by omega⟩
  have hw9 : (what : Int).tmod 9 = 2 := by rw [Int.tmod_eq_emod_of_nonneg (Int.natCast_nonneg what)]; omega
  have v1 : IntKind.i64.wrap (kk : Int) = kk := IntWalk.i64_in _ (by omega)
  have v2 : IntKind.i64.wrap ((kk : Int) + 1) = (kk : Int) + 1 := IntWalk.i64_in _ (by omega)
  have HKK : Hid ((kk : Int) + 1 = 1 ∨ (kk : Int) + 1 = 2 ∨ (kk : Int) + 1 = 3 ∨ (kk : Int) + 1 = 4) := Lib.hid (by omega)
  obtain ⟨w2, hw2⟩ : ∃ x, x = w1.alloc (.cells #[.string ⟨#[67]⟩, .string ⟨#[79, 98, 106, 101, 99, 116]⟩, .slice none 0 0, .int .i64 ((kk : Int) + 1), .slice none 0 0, .slice none 0 0] 27) := ⟨_, rfl⟩
  have HX2 : Hid (w2.heap[w1.heap.size]? = some (.cells #[.string ⟨#[67]⟩, .string ⟨#[79, 98, 106, 101, 99, 116]⟩, .slice none 0 0, .int .i64 ((kk : Int) + 1), .slice none 0 0, .slice none 0 0] 27 (0, 0))) := Lib.hid (by rw [hw2]; exact heap_alloc_new _ _)
  have HB2 : Hid (Below w.heap.size w w2) := Lib.hid (by rw [hw2]; exact hb1.trans ((below_alR _ _).mono hb1.size))
  have HGE := Lib.hid hb1.size
  clear hb1
  go_upto_region 4 with fail
  rw [← hw2]
  clear hw2 v1 v2 hkk
  obtain ⟨xb, hxb⟩ : ∃ z, w1.heap.size = z := ⟨_, rfl⟩
  rw [hxb] at HX2 HGE ⊢
  clear hxb
  obtain ⟨K, hK⟩ : ∃ z, (kk : Int) + 1 = z := ⟨_, rfl⟩
  rw [hK] at HX2 HKK
  try rw [hK]
  clear hK hkl
  obtain ⟨x_l, x_c, x_f⟩ := boxN HX2.out
  have x_3 := x_c 3 _ rfl
  have x_s := x_c 4 _ rfl
  have x_z := x_f 4
  simp only [Nat.zero_add] at x_3 x_s
  clear x_c x_f
  go_upto_region 16 with fail
  have k5 : Kpt [xb] w2 (w2.setCell ⟨xb, 4, none⟩ (.slice (some ⟨w2.heap.size, 0, none⟩) 1 1)) := Kpt.set _ _ _ _ _ (by simp)
  obtain ⟨w5, hw5⟩ : ∃ x, x = (w2.setCell ⟨xb, 4, none⟩ (.slice (some ⟨w2.heap.size, 0, none⟩) 1 1)).alloc (.cells #[.string ⟨#[102]⟩, .int .i64 4, .string ⟨#[68]⟩, .bool false] 51) := ⟨_, rfl⟩
  have c5 : Below w2.heap.size (w2.setCell ⟨xb, 4, none⟩ (.slice (some ⟨w2.heap.size, 0, none⟩) 1 1)) w5 := by rw [hw5]; exact (below_alR _ _).mono (by simp)
  have HX5 : Hid (w5.heap[xb]? = some (.cells #[.string ⟨#[67]⟩, .string ⟨#[79, 98, 106, 101, 99, 116]⟩, .slice none 0 0, .int .i64 K, .slice (some ⟨w2.heap.size, 0, none⟩) 1 1, .slice none 0 0] 27 (0, 0))) := Lib.hid (by rw [c5.block _ x_l, heap_setCell_same _ _ 4 _ _ _ HX2.out]; rfl)
  have HM5 : Hid (w5.heap[w2.heap.size]? = some (.cells #[.string ⟨#[102]⟩, .int .i64 4, .string ⟨#[68]⟩, .bool false] 51 (0, 0))) := Lib.hid (by rw [hw5]; have := heap_alloc_new (w2.setCell ⟨xb, 4, none⟩ (.slice (some ⟨w2.heap.size, 0, none⟩) 1 1)) (.cells #[.string ⟨#[102]⟩, .int .i64 4, .string ⟨#[68]⟩, .bool false] 51); rwa [World.size_setCell] at this)
  have HB5 : Hid (Below w.heap.size w w5) := Lib.hid ((HB2.out.trans (k5.below (B := w.heap.size) (fun x hx => by simp at hx; have := HGE.out; omega) HB2.out.size)).trans (c5.mono HB2.out.size))
  clear k5 c5 HB2
  go_upto_region 17 with fail
  rw [← hw5]
  clear hw5 x_l x_3 x_s x_z HX2
  obtain ⟨g, hg⟩ : ∃ z, w2.heap.size = z := ⟨_, rfl⟩
  rw [hg] at HX5 HM5
  try rw [hg]
  clear hg
  obtain ⟨x_l, x_c, -⟩ := boxN HX5.out
  have x_0 := x_c 0 _ rfl
  have x_1 := x_c 1 _ rfl
  have x_2 := x_c 2 _ rfl
  have x_3 := x_c 3 _ rfl
  have x_4 := x_c 4 _ rfl
  have x_5 := x_c 5 _ rfl
  simp only [Nat.zero_add] at x_0 x_1 x_2 x_3 x_4 x_5
  clear x_c
  go_upto_region 33 with fail
  obtain ⟨w6, hw6⟩ : ∃ x, x = w5.alloc (.cells #[.string ⟨#[67]⟩, .string ⟨#[79, 98, 106, 101, 99, 116]⟩, .slice none 0 0, .int .i64 K, .slice (some ⟨g, 0, none⟩) 1 1, .slice none 0 0] 27) := ⟨_, rfl⟩
  have c6 : Below w5.heap.size w5 w6 := by rw [hw6]; exact below_alR _ _
  have HM9 := (c6.block _ (Array.getElem?_eq_some_iff.1 HM5.out).1).trans HM5.out
  have hck := check_h (memA K [(⟨#[102]⟩, (4, ⟨#[68]⟩), false)] []) (some ⟨w5.heap.size, 0, none⟩) 1 anyB w6 (mem_rd (by rw [hw6]; exact heap_alloc_new _ _) (rd_block (P := sP fldC) [[.string ⟨#[102]⟩, .int .i64 4, .string ⟨#[68]⟩, .bool false]] [(⟨#[102]⟩, (4, ⟨#[68]⟩), false)] _ HM9 rfl trivial ⟨⟨rfl, rfl⟩, trivial⟩ 1 1 rfl (Nat.le_refl _)) (RdX.nil _ _ _ _)) (ckA_of (mem_t2 K HKK.out).1)
  rw [show (memA K [(⟨#[102]⟩, (4, ⟨#[68]⟩), false)] []).length = 1 from rfl, (mem_t2 K HKK.out).2] at hck
  have HCK := Lib.hid hck
  have HB6 := Lib.hid (HB5.out.trans (c6.mono HB5.out.size))
  clear hck HM9 c6 HB5 HM5 HX5
  go_wp2_with fail
  rw [← hw6]
  clear hw6
  have hck := HCK.out
  have hkk := HKK.out
  clear HCK HKK
  rcases hkk with rfl | rfl | rfl | rfl
  all_goals
    simp at hck
    refine hck.mono ?_
    rintro e w7 ⟨rfl, hb7⟩
    have HB7 := Lib.hid (HB6.out.trans (hb7.mono HB6.out.size))
    clear hck hb7 x_l x_0 x_1 x_2 x_3 x_4 x_5
    go_wp2_with fail
    go_ret
    exact ⟨rfl, HB7.out⟩
theorem mem_t3 (K : Int) (h : K = 1 ∨ K = 2 ∨ K = 3 ∨ K = 4) : hkB (memA K [] [mthV ⟨#[109]⟩ false false 5, mthV ⟨#[109]⟩ true false 5]) = true ∧ checkK (memA K [] [mthV ⟨#[109]⟩ false false 5, mthV ⟨#[109]⟩ true false 5]) = if true = true then (0, 25) else (0, 0) := by
  rcases h with rfl | rfl | rfl | rfl <;> exact ⟨by kernel_rfl, by kernel_rfl⟩
set_option maxHeartbeats 8000000 in
set_option maxRecDepth 100000 in
theorem mem_3 (kind what : Nat) (w : World) (hk : kind < 256) (hwl : what < 256) (hw : what % 9 = 3) :
    Calls Tryz.prog 6 #[.int .u8 (kind : Int), .int .u8 (what : Int)] w fun e w' => e = .returned (.bool true) ∧ Below w.heap.size w w' := by
  go_enter Tryz.func6, Tryz.ntmps6
  try simp only [List.append_eq, List.cons_append, List.nil_append]
  go_wp2_with fail
  refine (known_10 w).mono ?_
  rintro e w1 ⟨rfl, hb1⟩
  obtain ⟨kk, hkk, hkl⟩ : ∃ kk : Nat, (kind : Int).tmod 4 = (kk : Int) ∧ kk < 4 := ⟨kind % 4, by rw [Int.tmod_eq_emod_of_nonneg (Int.natCast_nonneg kind)]; omega, by omega⟩
  have hw9 : (what : Int).tmod 9 = 3 := by rw [Int.tmod_eq_emod_of_nonneg (Int.natCast_nonneg what)]; omega
  have v1 : IntKind.i64.wrap (kk : Int) = kk := IntWalk.i64_in _ (by omega)
  have v2 : IntKind.i64.wrap ((kk : Int) + 1) = (kk : Int) + 1 := IntWalk.i64_in _ (by omega)
  have HKK : Hid ((kk : Int) + 1 = 1 ∨ (kk : Int) + 1 = 2 ∨ (kk : Int) + 1 = 3 ∨ (kk : Int) + 1 = 4) := Lib.hid (by omega)
  obtain ⟨w2, hw2⟩ : ∃ x, x = w1.alloc (.cells #[.string ⟨#[67]⟩, .string ⟨#[79, 98, 106, 101, 99, 116]⟩, .slice none 0 0, .int .i64 ((kk : Int) + 1), .slice none 0 0, .slice none 0 0] 27) := ⟨_, rfl⟩
  have HX2 : Hid (w2.heap[w1.heap.size]? = some (.cells #[.string ⟨#[67]⟩, .string ⟨#[79, 98, 106, 101, 99, 116]⟩, .slice none 0 0, .int .i64 ((kk : Int) + 1), .slice none 0 0, .slice none 0 0] 27 (0, 0))) := Lib.hid (by rw [hw2]; exact heap_alloc_new _ _)
  have HB2 : Hid (Below w.heap.size w w2) := Lib.hid (by rw [hw2]; exact hb1.trans ((below_alR _ _).mono hb1.size))
  have HGE := Lib.hid hb1.size
  clear hb1
  go_upto_region 4 with fail
  rw [← hw2]
  clear hw2 v1 v2 hkk
  obtain ⟨xb, hxb⟩ : ∃ z, w1.heap.size = z := ⟨_, rfl⟩
  rw [hxb] at HX2 HGE ⊢
  clear hxb
  obtain ⟨K, hK⟩ : ∃ z, (kk : Int) + 1 = z := ⟨_, rfl⟩
  rw [hK] at HX2 HKK
  try rw [hK]
  clear hK hkl
  obtain ⟨x_l, x_c, x_f⟩ := boxN HX2.out
  have x_3 := x_c 3 _ rfl
  have x_s := x_c 5 _ rfl
  have x_z := x_f 5
  simp only [Nat.zero_add] at x_3 x_s
  clear x_c x_f
  go_upto_region 19 with fail
  go_wp2_with fail
  refine (method_l _ _ _ _ w2).mono ?_
  rintro e w3 ⟨rfl, hb3⟩
  go_wp2_with fail
  refine (method_l _ _ _ _ w3).mono ?_
  rintro e w4 ⟨rfl, hb4⟩
  have HB3 := Lib.hid (HB2.out.trans ((hb3.trans (hb4.mono hb3.size)).mono HB2.out.size))
  have HX3 := Lib.hid (((hb3.trans (hb4.mono hb3.size)).block _ (Array.getElem?_eq_some_iff.1 HX2.out).1).trans HX2.out)
  clear hb3 hb4 HX2 HB2 x_l x_3 x_s x_z
  have HX2 := HX3
  have HB2 := HB3
  clear HX3 HB3
  obtain ⟨x_l, x_c, x_f⟩ := boxN HX2.out
  have x_3 := x_c 3 _ rfl
  have x_s := x_c 5 _ rfl
  have x_z := x_f 5
  simp only [Nat.zero_add] at x_3 x_s
  clear x_c x_f
  have k5 : Kpt [xb] w4 (w4.setCell ⟨xb, 5, none⟩ (.slice (some ⟨w4.heap.size, 0, none⟩) 2 2)) := Kpt.set _ _ _ _ _ (by simp)
  obtain ⟨w5, hw5⟩ : ∃ x, x = (w4.setCell ⟨xb, 5, none⟩ (.slice (some ⟨w4.heap.size, 0, none⟩) 2 2)).alloc (.cells #[.string ⟨#[109]⟩, .slice none 0 0, .int .i64 5, .string ⟨#[]⟩, .bool false, .bool false, .int .i64 0, .slice none 0 0, .slice none 0 0, .string ⟨#[109]⟩, .slice none 0 0, .int .i64 5, .string ⟨#[]⟩, .bool true, .bool false, .int .i64 0, .slice none 0 0, .slice none 0 0] 42) := ⟨_, rfl⟩
  have c5 : Below w4.heap.size (w4.setCell ⟨xb, 5, none⟩ (.slice (some ⟨w4.heap.size, 0, none⟩) 2 2)) w5 := by rw [hw5]; exact (below_alR _ _).mono (by simp)
  have HX5 : Hid (w5.heap[xb]? = some (.cells #[.string ⟨#[67]⟩, .string ⟨#[79, 98, 106, 101, 99, 116]⟩, .slice none 0 0, .int .i64 K, .slice none 0 0, .slice (some ⟨w4.heap.size, 0, none⟩) 2 2] 27 (0, 0))) := Lib.hid (by rw [c5.block _ x_l, heap_setCell_same _ _ 5 _ _ _ HX2.out]; rfl)
  have HM5 : Hid (w5.heap[w4.heap.size]? = some (.cells #[.string ⟨#[109]⟩, .slice none 0 0, .int .i64 5, .string ⟨#[]⟩, .bool false, .bool false, .int .i64 0, .slice none 0 0, .slice none 0 0, .string ⟨#[109]⟩, .slice none 0 0, .int .i64 5, .string ⟨#[]⟩, .bool true, .bool false, .int .i64 0, .slice none 0 0, .slice none 0 0] 42 (0, 0))) := Lib.hid (by rw [hw5]; have := heap_alloc_new (w4.setCell ⟨xb, 5, none⟩ (.slice (some ⟨w4.heap.size, 0, none⟩) 2 2)) (.cells #[.string ⟨#[109]⟩, .slice none 0 0, .int .i64 5, .string ⟨#[]⟩, .bool false, .bool false, .int .i64 0, .slice none 0 0, .slice none 0 0, .string ⟨#[109]⟩, .slice none 0 0, .int .i64 5, .string ⟨#[]⟩, .bool true, .bool false, .int .i64 0, .slice none 0 0, .slice none 0 0] 42); rwa [World.size_setCell] at this)
  have HB5 : Hid (Below w.heap.size w w5) := Lib.hid ((HB2.out.trans (k5.below (B := w.heap.size) (fun x hx => by simp at hx; have := HGE.out; omega) HB2.out.size)).trans (c5.mono HB2.out.size))
  clear k5 c5 HB2
  go_upto_region 20 with fail
  rw [← hw5]
  clear hw5 x_l x_3 x_s x_z HX2
  obtain ⟨g, hg⟩ : ∃ z, w4.heap.size = z := ⟨_, rfl⟩
  rw [hg] at HX5 HM5
  try rw [hg]
  clear hg
  obtain ⟨x_l, x_c, -⟩ := boxN HX5.out
  have x_0 := x_c 0 _ rfl
  have x_1 := x_c 1 _ rfl
  have x_2 := x_c 2 _ rfl
  have x_3 := x_c 3 _ rfl
  have x_4 := x_c 4 _ rfl
  have x_5 := x_c 5 _ rfl
  simp only [Nat.zero_add] at x_0 x_1 x_2 x_3 x_4 x_5
  clear x_c
  go_upto_region 33 with fail
  obtain ⟨w6, hw6⟩ : ∃ x, x = w5.alloc (.cells #[.string ⟨#[67]⟩, .string ⟨#[79, 98, 106, 101, 99, 116]⟩, .slice none 0 0, .int .i64 K, .slice none 0 0, .slice (some ⟨g, 0, none⟩) 2 2] 27) := ⟨_, rfl⟩
  have c6 : Below w5.heap.size w5 w6 := by rw [hw6]; exact below_alR _ _
  have HM9 := (c6.block _ (Array.getElem?_eq_some_iff.1 HM5.out).1).trans HM5.out
  have hck := check_h (memA K [] [mthV ⟨#[109]⟩ false false 5, mthV ⟨#[109]⟩ true false 5]) (some ⟨w5.heap.size, 0, none⟩) 1 anyB w6 (mem_rd (by rw [hw6]; exact heap_alloc_new _ _) (RdX.nil _ _ _ _) (rd_m2 HM9)) (ckA_of (mem_t3 K HKK.out).1)
  rw [show (memA K [] [mthV ⟨#[109]⟩ false false 5, mthV ⟨#[109]⟩ true false 5]).length = 1 from rfl, (mem_t3 K HKK.out).2] at hck
  have HCK := Lib.hid hck
  have HB6 := Lib.hid (HB5.out.trans (c6.mono HB5.out.size))
  clear hck HM9 c6 HB5 HM5 HX5
  go_wp2_with fail
  rw [← hw6]
  clear hw6
  have hck := HCK.out
  have hkk := HKK.out
  clear HCK HKK
  rcases hkk with rfl | rfl | rfl | rfl
  all_goals
    simp at hck
    refine hck.mono ?_
    rintro e w7 ⟨rfl, hb7⟩
    have HB7 := Lib.hid (HB6.out.trans (hb7.mono HB6.out.size))
    clear hck hb7 x_l x_0 x_1 x_2 x_3 x_4 x_5
    go_wp2_with fail
    go_ret
    exact ⟨rfl, HB7.out⟩
theorem mem_t4 (K : Int) (h : K = 1 ∨ K = 2 ∨ K = 3 ∨ K = 4) : hkB (memA K [] [mthV ⟨#[109]⟩ false false 5, mthV ⟨#[109]⟩ true false 1]) = true ∧ checkK (memA K [] [mthV ⟨#[109]⟩ false false 5, mthV ⟨#[109]⟩ true false 1]) = if (K == 4) = true then (0, 25) else (0, 0) := by
  rcases h with rfl | rfl | rfl | rfl <;> exact ⟨by kernel_rfl, by kernel_rfl⟩
set_option maxHeartbeats 8000000 in
set_option maxRecDepth 100000 in
theorem mem_4 (kind what : Nat) (w : World) (hk : kind < 256) (hwl : what < 256) (hw : what % 9 = 4) :
    Calls Tryz.prog 6 #[.int .u8 (kind : Int), .int .u8 (what : Int)] w fun e w' => e = .returned (.bool true) ∧ Below w.heap.size w w' := by
  go_enter Tryz.func6, Tryz.ntmps6
  try simp only [List.append_eq, List.cons_append, List.nil_append]
  go_wp2_with fail
  refine (known_10 w).mono ?_
  rintro e w1 ⟨rfl, hb1⟩
  obtain ⟨kk, hkk, hkl⟩ : ∃ kk : Nat, (kind : Int).tmod 4 = (kk : Int) ∧ kk < 4 := ⟨kind % 4, by rw [Int.tmod_eq_emod_of_nonneg (Int.natCast_nonneg kind)]; omega, by omega⟩
  have hw9 : (what : Int).tmod 9 = 4 := by rw [Int.tmod_eq_emod_of_nonneg (Int.natCast_nonneg what)]; omega
  have v1 : IntKind.i64.wrap (kk : Int) = kk := IntWalk.i64_in _ (by omega)
  have v2 : IntKind.i64.wrap ((kk : Int) + 1) = (kk : Int) + 1 := IntWalk.i64_in _ (by omega)
  have HKK : Hid ((kk : Int) + 1 = 1 ∨ (kk : Int) + 1 = 2 ∨ (kk : Int) + 1 = 3 ∨ (kk : Int) + 1 = 4) := Lib.hid (by omega)
  obtain ⟨w2, hw2⟩ : ∃ x, x = w1.alloc (.cells #[.string ⟨#[67]⟩, .string ⟨#[79, 98, 106, 101, 99, 116]⟩, .slice none 0 0, .int .i64 ((kk : Int) + 1), .slice none 0 0, .slice none 0 0] 27) := ⟨_, rfl⟩
  have HX2 : Hid (w2.heap[w1.heap.size]? = some (.cells #[.string ⟨#[67]⟩, .string ⟨#[79, 98, 106, 101, 99, 116]⟩, .slice none 0 0, .int .i64 ((kk : Int) + 1), .slice none 0 0, .slice none 0 0] 27 (0, 0))) := Lib.hid (by rw [hw2]; exact heap_alloc_new _ _)
  have HB2 : Hid (Below w.heap.size w w2) := Lib.hid (by rw [hw2]; exact hb1.trans ((below_alR _ _).mono hb1.size))
  have HGE := Lib.hid hb1.size
  clear hb1
  go_upto_region 4 with fail
  rw [← hw2]
  clear hw2 v1 v2 hkk
  obtain ⟨xb, hxb⟩ : ∃ z, w1.heap.size = z := ⟨_, rfl⟩
  rw [hxb] at HX2 HGE ⊢
  clear hxb
  obtain ⟨K, hK⟩ : ∃ z, (kk : Int) + 1 = z := ⟨_, rfl⟩
  rw [hK] at HX2 HKK
  try rw [hK]
  clear hK hkl
  obtain ⟨x_l, x_c, x_f⟩ := boxN HX2.out
  have x_3 := x_c 3 _ rfl
  have x_s := x_c 5 _ rfl
  have x_z := x_f 5
  simp only [Nat.zero_add] at x_3 x_s
  clear x_c x_f
  go_upto_region 22 with fail
  go_wp2_with fail
  refine (method_l _ _ _ _ w2).mono ?_
  rintro e w3 ⟨rfl, hb3⟩
  go_wp2_with fail
  refine (method_l _ _ _ _ w3).mono ?_
  rintro e w4 ⟨rfl, hb4⟩
  have HB3 := Lib.hid (HB2.out.trans ((hb3.trans (hb4.mono hb3.size)).mono HB2.out.size))
  have HX3 := Lib.hid (((hb3.trans (hb4.mono hb3.size)).block _ (Array.getElem?_eq_some_iff.1 HX2.out).1).trans HX2.out)
  clear hb3 hb4 HX2 HB2 x_l x_3 x_s x_z
  have HX2 := HX3
  have HB2 := HB3
  clear HX3 HB3
  obtain ⟨x_l, x_c, x_f⟩ := boxN HX2.out
  have x_3 := x_c 3 _ rfl
  have x_s := x_c 5 _ rfl
  have x_z := x_f 5
  simp only [Nat.zero_add] at x_3 x_s
  clear x_c x_f
  have k5 : Kpt [xb] w4 (w4.setCell ⟨xb, 5, none⟩ (.slice (some ⟨w4.heap.size, 0, none⟩) 2 2)) := Kpt.set _ _ _ _ _ (by simp)
  obtain ⟨w5, hw5⟩ : ∃ x, x = (w4.setCell ⟨xb, 5, none⟩ (.slice (some ⟨w4.heap.size, 0, none⟩) 2 2)).alloc (.cells #[.string ⟨#[109]⟩, .slice none 0 0, .int .i64 5, .string ⟨#[]⟩, .bool false, .bool false, .int .i64 0, .slice none 0 0, .slice none 0 0, .string ⟨#[109]⟩, .slice none 0 0, .int .i64 1, .string ⟨#[]⟩, .bool true, .bool false, .int .i64 0, .slice none 0 0, .slice none 0 0] 42) := ⟨_, rfl⟩
  have c5 : Below w4.heap.size (w4.setCell ⟨xb, 5, none⟩ (.slice (some ⟨w4.heap.size, 0, none⟩) 2 2)) w5 := by rw [hw5]; exact (below_alR _ _).mono (by simp)
  have HX5 : Hid (w5.heap[xb]? = some (.cells #[.string ⟨#[67]⟩, .string ⟨#[79, 98, 106, 101, 99, 116]⟩, .slice none 0 0, .int .i64 K, .slice none 0 0, .slice (some ⟨w4.heap.size, 0, none⟩) 2 2] 27 (0, 0))) := Lib.hid (by rw [c5.block _ x_l, heap_setCell_same _ _ 5 _ _ _ HX2.out]; rfl)
  have HM5 : Hid (w5.heap[w4.heap.size]? = some (.cells #[.string ⟨#[109]⟩, .slice none 0 0, .int .i64 5, .string ⟨#[]⟩, .bool false, .bool false, .int .i64 0, .slice none 0 0, .slice none 0 0, .string ⟨#[109]⟩, .slice none 0 0, .int .i64 1, .string ⟨#[]⟩, .bool true, .bool false, .int .i64 0, .slice none 0 0, .slice none 0 0] 42 (0, 0))) := Lib.hid (by rw [hw5]; have := heap_alloc_new (w4.setCell ⟨xb, 5, none⟩ (.slice (some ⟨w4.heap.size, 0, none⟩) 2 2)) (.cells #[.string ⟨#[109]⟩, .slice none 0 0, .int .i64 5, .string ⟨#[]⟩, .bool false, .bool false, .int .i64 0, .slice none 0 0, .slice none 0 0, .string ⟨#[109]⟩, .slice none 0 0, .int .i64 1, .string ⟨#[]⟩, .bool true, .bool false, .int .i64 0, .slice none 0 0, .slice none 0 0] 42); rwa [World.size_setCell] at this)
  have HB5 : Hid (Below w.heap.size w w5) := Lib.hid ((HB2.out.trans (k5.below (B := w.heap.size) (fun x hx => by simp at hx; have := HGE.out; omega) HB2.out.size)).trans (c5.mono HB2.out.size))
  clear k5 c5 HB2
  go_upto_region 23 with fail
  rw [← hw5]
  clear hw5 x_l x_3 x_s x_z HX2
  obtain ⟨g, hg⟩ : ∃ z, w4.heap.size = z := ⟨_, rfl⟩
  rw [hg] at HX5 HM5
  try rw [hg]
  clear hg
  obtain ⟨x_l, x_c, -⟩ := boxN HX5.out
  have x_0 := x_c 0 _ rfl
  have x_1 := x_c 1 _ rfl
  have x_2 := x_c 2 _ rfl
  have x_3 := x_c 3 _ rfl
  have x_4 := x_c 4 _ rfl
  have x_5 := x_c 5 _ rfl
  simp only [Nat.zero_add] at x_0 x_1 x_2 x_3 x_4 x_5
  clear x_c
  go_upto_region 33 with fail
  obtain ⟨w6, hw6⟩ : ∃ x, x = w5.alloc (.cells #[.string ⟨#[67]⟩, .string ⟨#[79, 98, 106, 101, 99, 116]⟩, .slice none 0 0, .int .i64 K, .slice none 0 0, .slice (some ⟨g, 0, none⟩) 2 2] 27) := ⟨_, rfl⟩
  have c6 : Below w5.heap.size w5 w6 := by rw [hw6]; exact below_alR _ _
  have HM9 := (c6.block _ (Array.getElem?_eq_some_iff.1 HM5.out).1).trans HM5.out
  have hck := check_h (memA K [] [mthV ⟨#[109]⟩ false false 5, mthV ⟨#[109]⟩ true false 1]) (some ⟨w5.heap.size, 0, none⟩) 1 anyB w6 (mem_rd (by rw [hw6]; exact heap_alloc_new _ _) (RdX.nil _ _ _ _) (rd_m2 HM9)) (ckA_of (mem_t4 K HKK.out).1)
  rw [show (memA K [] [mthV ⟨#[109]⟩ false false 5, mthV ⟨#[109]⟩ true false 1]).length = 1 from rfl, (mem_t4 K HKK.out).2] at hck
  have HCK := Lib.hid hck
  have HB6 := Lib.hid (HB5.out.trans (c6.mono HB5.out.size))
  clear hck HM9 c6 HB5 HM5 HX5
  go_wp2_with fail
  rw [← hw6]
  clear hw6
  have hck := HCK.out
  have hkk := HKK.out
  clear HCK HKK
  rcases hkk with rfl | rfl | rfl | rfl
  all_goals
    simp at hck
    refine hck.mono ?_
    rintro e w7 ⟨rfl, hb7⟩
    have HB7 := Lib.hid (HB6.out.trans (hb7.mono HB6.out.size))
    clear hck hb7 x_l x_0 x_1 x_2 x_3 x_4 x_5
    go_wp2_with fail
    go_ret
    exact ⟨rfl, HB7.out⟩
theorem mem_t5 (K : Int) (h : K = 1 ∨ K = 2 ∨ K = 3 ∨ K = 4) : hkB (memA K [] [mthV ⟨#[109]⟩ true true 5]) = true ∧ checkK (memA K [] [mthV ⟨#[109]⟩ true true 5]) = if true = true then (0, 25) else (0, 0) := by
  rcases h with rfl | rfl | rfl | rfl <;> exact ⟨by kernel_rfl, by kernel_rfl⟩
set_option maxHeartbeats 8000000 in
set_option maxRecDepth 100000 in
theorem mem_5 (kind what : Nat) (w : World) (hk : kind < 256) (hwl : what < 256) (hw : what % 9 = 5) :
    Calls Tryz.prog 6 #[.int .u8 (kind : Int), .int .u8 (what : Int)] w fun e w' => e = .returned (.bool true) ∧ Below w.heap.size w w' := by
  go_enter Tryz.func6, Tryz.ntmps6
  try simp only [List.append_eq, List.cons_append, List.nil_append]
  go_wp2_with fail
  refine (known_10 w).mono ?_
  rintro e w1 ⟨rfl, hb1⟩
  obtain ⟨kk, hkk, hkl⟩ : ∃ kk : Nat, (kind : Int).tmod 4 = (kk : Int) ∧ kk < 4 := ⟨kind % 4, by rw [Int.tmod_eq_emod_of_nonneg (Int.natCast_nonneg kind)]; omega, by omega⟩
  have hw9 : (what : Int).tmod 9 = 5 := by rw [Int.tmod_eq_emod_of_nonneg (Int.natCast_nonneg what)]; omega
  have v1 : IntKind.i64.wrap (kk : Int) = kk := IntWalk.i64_in _ (by omega)
  have v2 : IntKind.i64.wrap ((kk : Int) + 1) = (kk : Int) + 1 := IntWalk.i64_in _ (by omega)
  have HKK : Hid ((kk : Int) + 1 = 1 ∨ (kk : Int) + 1 = 2 ∨ (kk : Int) + 1 = 3 ∨ (kk : Int) + 1 = 4) := Lib.hid (by omega)
  obtain ⟨w2, hw2⟩ : ∃ x, x = w1.alloc (.cells #[.string ⟨#[67]⟩, .string ⟨#[79, 98, 106, 101, 99, 116]⟩, .slice none 0 0, .int .i64 ((kk : Int) + 1), .slice none 0 0, .slice none 0 0] 27) := ⟨_, rfl⟩
  have HX2 : Hid (w2.heap[w1.heap.size]? = some (.cells #[.string ⟨#[67]⟩, .string ⟨#[79, 98, 106, 101, 99, 116]⟩, .slice none 0 0, .int .i64 ((kk : Int) + 1), .slice none 0 0, .slice none 0 0] 27 (0, 0))) := Lib.hid (by rw [hw2]; exact heap_alloc_new _ _)
  have HB2 : Hid (Below w.heap.size w w2) := Lib.hid (by rw [hw2]; exact hb1.trans ((below_alR _ _).mono hb1.size))
  have HGE := Lib.hid hb1.size
  clear hb1
  go_upto_region 4 with fail
  rw [← hw2]
  clear hw2 v1 v2 hkk
  obtain ⟨xb, hxb⟩ : ∃ z, w1.heap.size = z := ⟨_, rfl⟩
  rw [hxb] at HX2 HGE ⊢
  clear hxb
  obtain ⟨K, hK⟩ : ∃ z, (kk : Int) + 1 = z := ⟨_, rfl⟩
  rw [hK] at HX2 HKK
  try rw [hK]
  clear hK hkl
  obtain ⟨x_l, x_c, x_f⟩ := boxN HX2.out
  have x_3 := x_c 3 _ rfl
  have x_s := x_c 5 _ rfl
  have x_z := x_f 5
  simp only [Nat.zero_add] at x_3 x_s
  clear x_c x_f
  go_upto_region 25 with fail
  go_wp2_with fail
  refine (method_l _ _ _ _ w2).mono ?_
  rintro e w3 ⟨rfl, hb3⟩
  have HB3 := Lib.hid (HB2.out.trans (hb3.mono HB2.out.size))
  have HX3 := Lib.hid ((hb3.block _ (Array.getElem?_eq_some_iff.1 HX2.out).1).trans HX2.out)
  clear hb3 HX2 HB2 x_l x_3 x_s x_z
  have HX2 := HX3
  have HB2 := HB3
  clear HX3 HB3
  obtain ⟨x_l, x_c, x_f⟩ := boxN HX2.out
  have x_3 := x_c 3 _ rfl
  have x_s := x_c 5 _ rfl
  have x_z := x_f 5
  simp only [Nat.zero_add] at x_3 x_s
  clear x_c x_f
  have k5 : Kpt [xb] w3 (w3.setCell ⟨xb, 5, none⟩ (.slice (some ⟨w3.heap.size, 0, none⟩) 1 1)) := Kpt.set _ _ _ _ _ (by simp)
  obtain ⟨w5, hw5⟩ : ∃ x, x = (w3.setCell ⟨xb, 5, none⟩ (.slice (some ⟨w3.heap.size, 0, none⟩) 1 1)).alloc (.cells #[.string ⟨#[109]⟩, .slice none 0 0, .int .i64 5, .string ⟨#[]⟩, .bool true, .bool true, .int .i64 0, .slice none 0 0, .slice none 0 0] 42) := ⟨_, rfl⟩
  have c5 : Below w3.heap.size (w3.setCell ⟨xb, 5, none⟩ (.slice (some ⟨w3.heap.size, 0, none⟩) 1 1)) w5 := by rw [hw5]; exact (below_alR _ _).mono (by simp)
  have HX5 : Hid (w5.heap[xb]? = some (.cells #[.string ⟨#[67]⟩, .string ⟨#[79, 98, 106, 101, 99, 116]⟩, .slice none 0 0, .int .i64 K, .slice none 0 0, .slice (some ⟨w3.heap.size, 0, none⟩) 1 1] 27 (0, 0))) := Lib.hid (by rw [c5.block _ x_l, heap_setCell_same _ _ 5 _ _ _ HX2.out]; rfl)
  have HM5 : Hid (w5.heap[w3.heap.size]? = some (.cells #[.string ⟨#[109]⟩, .slice none 0 0, .int .i64 5, .string ⟨#[]⟩, .bool true, .bool true, .int .i64 0, .slice none 0 0, .slice none 0 0] 42 (0, 0))) := Lib.hid (by rw [hw5]; have := heap_alloc_new (w3.setCell ⟨xb, 5, none⟩ (.slice (some ⟨w3.heap.size, 0, none⟩) 1 1)) (.cells #[.string ⟨#[109]⟩, .slice none 0 0, .int .i64 5, .string ⟨#[]⟩, .bool true, .bool true, .int .i64 0, .slice none 0 0, .slice none 0 0] 42); rwa [World.size_setCell] at this)
  have HB5 : Hid (Below w.heap.size w w5) := Lib.hid ((HB2.out.trans (k5.below (B := w.heap.size) (fun x hx => by simp at hx; have := HGE.out; omega) HB2.out.size)).trans (c5.mono HB2.out.size))
  clear k5 c5 HB2
  go_upto_region 26 with fail
  rw [← hw5]
  clear hw5 x_l x_3 x_s x_z HX2
  obtain ⟨g, hg⟩ : ∃ z, w3.heap.size = z := ⟨_, rfl⟩
  rw [hg] at HX5 HM5
  try rw [hg]
  clear hg
  obtain ⟨x_l, x_c, -⟩ := boxN HX5.out
  have x_0 := x_c 0 _ rfl
  have x_1 := x_c 1 _ rfl
  have x_2 := x_c 2 _ rfl
  have x_3 := x_c 3 _ rfl
  have x_4 := x_c 4 _ rfl
  have x_5 := x_c 5 _ rfl
  simp only [Nat.zero_add] at x_0 x_1 x_2 x_3 x_4 x_5
  clear x_c
  go_upto_region 33 with fail
  obtain ⟨w6, hw6⟩ : ∃ x, x = w5.alloc (.cells #[.string ⟨#[67]⟩, .string ⟨#[79, 98, 106, 101, 99, 116]⟩, .slice none 0 0, .int .i64 K, .slice none 0 0, .slice (some ⟨g, 0, none⟩) 1 1] 27) := ⟨_, rfl⟩
  have c6 : Below w5.heap.size w5 w6 := by rw [hw6]; exact below_alR _ _
  have HM9 := (c6.block _ (Array.getElem?_eq_some_iff.1 HM5.out).1).trans HM5.out
  have hck := check_h (memA K [] [mthV ⟨#[109]⟩ true true 5]) (some ⟨w5.heap.size, 0, none⟩) 1 anyB w6 (mem_rd (by rw [hw6]; exact heap_alloc_new _ _) (RdX.nil _ _ _ _) (rd_m1 HM9)) (ckA_of (mem_t5 K HKK.out).1)
  rw [show (memA K [] [mthV ⟨#[109]⟩ true true 5]).length = 1 from rfl, (mem_t5 K HKK.out).2] at hck
  have HCK := Lib.hid hck
  have HB6 := Lib.hid (HB5.out.trans (c6.mono HB5.out.size))
  clear hck HM9 c6 HB5 HM5 HX5
  go_wp2_with fail
  rw [← hw6]
  clear hw6
  have hck := HCK.out
  have hkk := HKK.out
  clear HCK HKK
  rcases hkk with rfl | rfl | rfl | rfl
  all_goals
    simp at hck
    refine hck.mono ?_
    rintro e w7 ⟨rfl, hb7⟩
    have HB7 := Lib.hid (HB6.out.trans (hb7.mono HB6.out.size))
    clear hck hb7 x_l x_0 x_1 x_2 x_3 x_4 x_5
    go_wp2_with fail
    go_ret
    exact ⟨rfl, HB7.out⟩
theorem mem_t6 (K : Int) (h : K = 1 ∨ K = 2 ∨ K = 3 ∨ K = 4) : hkB (memA K [] [mthV ⟨#[109]⟩ false true 5]) = true ∧ checkK (memA K [] [mthV ⟨#[109]⟩ false true 5]) = if (!(K == 4) && !(K == 2)) = true then (0, 25) else (0, 0) := by
  rcases h with rfl | rfl | rfl | rfl <;> exact ⟨by kernel_rfl, by kernel_rfl⟩
set_option maxHeartbeats 8000000 in
set_option maxRecDepth 100000 in
theorem mem_6 (kind what : Nat) (w : World) (hk : kind < 256) (hwl : what < 256) (hw : what % 9 = 6) :
    Calls Tryz.prog 6 #[.int .u8 (kind : Int), .int .u8 (what : Int)] w fun e w' => e = .returned (.bool true) ∧ Below w.heap.size w w' := by
  go_enter Tryz.func6, Tryz.ntmps6
  try simp only [List.append_eq, List.cons_append, List.nil_append]
  go_wp2_with fail
  refine (known_10 w).mono ?_
  rintro e w1 ⟨rfl, hb1⟩
  obtain ⟨kk, hkk, hkl⟩ : ∃ kk : Nat, (kind : Int).tmod 4 = (kk : Int) ∧ kk < 4 := ⟨kind % 4, by rw [Int.tmod_eq_emod_of_nonneg (Int.natCast_nonneg kind)]; omega, by omega⟩
  have hw9 : (what : Int).tmod 9 = 6 := by rw [Int.tmod_eq_emod_of_nonneg (Int.natCast_nonneg what)]; omega
  have v1 : IntKind.i64.wrap (kk : Int) = kk := IntWalk.i64_in _ (by omega)
  have v2 : IntKind.i64.wrap ((kk : Int) + 1) = (kk : Int) + 1 := IntWalk.i64_in _ (by omega)
  have HKK : Hid ((kk : Int) + 1 = 1 ∨ (kk : Int) + 1 = 2 ∨ (kk : Int) + 1 = 3 ∨ (kk : Int) + 1 = 4) := Lib.hid (by omega)
  obtain ⟨w2, hw2⟩ : ∃ x, x = w1.alloc (.cells #[.string ⟨#[67]⟩, .string ⟨#[79, 98, 106, 101, 99, 116]⟩, .slice none 0 0, .int .i64 ((kk : Int) + 1), .slice none 0 0, .slice none 0 0] 27) := ⟨_, rfl⟩
  have HX2 : Hid (w2.heap[w1.heap.size]? = some (.cells #[.string ⟨#[67]⟩, .string ⟨#[79, 98, 106, 101, 99, 116]⟩, .slice none 0 0, .int .i64 ((kk : Int) + 1), .slice none 0 0, .slice none 0 0] 27 (0, 0))) := Lib.hid (by rw [hw2]; exact heap_alloc_new _ _)
  have HB2 : Hid (Below w.heap.size w w2) := Lib.hid (by rw [hw2]; exact hb1.trans ((below_alR _ _).mono hb1.size))
  have HGE := Lib.hid hb1.size
  clear hb1
  go_upto_region 4 with fail
  rw [← hw2]
  clear hw2 v1 v2 hkk
  obtain ⟨xb, hxb⟩ : ∃ z, w1.heap.size = z := ⟨_, rfl⟩
  rw [hxb] at HX2 HGE ⊢
  clear hxb
  obtain ⟨K, hK⟩ : ∃ z, (kk : Int) + 1 = z := ⟨_, rfl⟩
  rw [hK] at HX2 HKK
  try rw [hK]
  clear hK hkl
  obtain ⟨x_l, x_c, x_f⟩ := boxN HX2.out
  have x_3 := x_c 3 _ rfl
  have x_s := x_c 5 _ rfl
  have x_z := x_f 5
  simp only [Nat.zero_add] at x_3 x_s
  clear x_c x_f
  go_upto_region 28 with fail
  go_wp2_with fail
  refine (method_l _ _ _ _ w2).mono ?_
  rintro e w3 ⟨rfl, hb3⟩
  have HB3 := Lib.hid (HB2.out.trans (hb3.mono HB2.out.size))
  have HX3 := Lib.hid ((hb3.block _ (Array.getElem?_eq_some_iff.1 HX2.out).1).trans HX2.out)
  clear hb3 HX2 HB2 x_l x_3 x_s x_z
  have HX2 := HX3
  have HB2 := HB3
  clear HX3 HB3
  obtain ⟨x_l, x_c, x_f⟩ := boxN HX2.out
  have x_3 := x_c 3 _ rfl
  have x_s := x_c 5 _ rfl
  have x_z := x_f 5
  simp only [Nat.zero_add] at x_3 x_s
  clear x_c x_f
  have k5 : Kpt [xb] w3 (w3.setCell ⟨xb, 5, none⟩ (.slice (some ⟨w3.heap.size, 0, none⟩) 1 1)) := Kpt.set _ _ _ _ _ (by simp)
  obtain ⟨w5, hw5⟩ : ∃ x, x = (w3.setCell ⟨xb, 5, none⟩ (.slice (some ⟨w3.heap.size, 0, none⟩) 1 1)).alloc (.cells #[.string ⟨#[109]⟩, .slice none 0 0, .int .i64 5, .string ⟨#[]⟩, .bool false, .bool true, .int .i64 0, .slice none 0 0, .slice none 0 0] 42) := ⟨_, rfl⟩
  have c5 : Below w3.heap.size (w3.setCell ⟨xb, 5, none⟩ (.slice (some ⟨w3.heap.size, 0, none⟩) 1 1)) w5 := by rw [hw5]; exact (below_alR _ _).mono (by simp)
  have HX5 : Hid (w5.heap[xb]? = some (.cells #[.string ⟨#[67]⟩, .string ⟨#[79, 98, 106, 101, 99, 116]⟩, .slice none 0 0, .int .i64 K, .slice none 0 0, .slice (some ⟨w3.heap.size, 0, none⟩) 1 1] 27 (0, 0))) := Lib.hid (by rw [c5.block _ x_l, heap_setCell_same _ _ 5 _ _ _ HX2.out]; rfl)
  have HM5 : Hid (w5.heap[w3.heap.size]? = some (.cells #[.string ⟨#[109]⟩, .slice none 0 0, .int .i64 5, .string ⟨#[]⟩, .bool false, .bool true, .int .i64 0, .slice none 0 0, .slice none 0 0] 42 (0, 0))) := Lib.hid (by rw [hw5]; have := heap_alloc_new (w3.setCell ⟨xb, 5, none⟩ (.slice (some ⟨w3.heap.size, 0, none⟩) 1 1)) (.cells #[.string ⟨#[109]⟩, .slice none 0 0, .int .i64 5, .string ⟨#[]⟩, .bool false, .bool true, .int .i64 0, .slice none 0 0, .slice none 0 0] 42); rwa [World.size_setCell] at this)
  have HB5 : Hid (Below w.heap.size w w5) := Lib.hid ((HB2.out.trans (k5.below (B := w.heap.size) (fun x hx => by simp at hx; have := HGE.out; omega) HB2.out.size)).trans (c5.mono HB2.out.size))
  clear k5 c5 HB2
  go_upto_region 29 with fail
  rw [← hw5]
  clear hw5 x_l x_3 x_s x_z HX2
  obtain ⟨g, hg⟩ : ∃ z, w3.heap.size = z := ⟨_, rfl⟩
  rw [hg] at HX5 HM5
  try rw [hg]
  clear hg
  obtain ⟨x_l, x_c, -⟩ := boxN HX5.out
  have x_0 := x_c 0 _ rfl
  have x_1 := x_c 1 _ rfl
  have x_2 := x_c 2 _ rfl
  have x_3 := x_c 3 _ rfl
  have x_4 := x_c 4 _ rfl
  have x_5 := x_c 5 _ rfl
  simp only [Nat.zero_add] at x_0 x_1 x_2 x_3 x_4 x_5
  clear x_c
  have hkk := HKK.out
  rcases hkk with rfl | rfl | rfl | rfl
  · go_upto_region 33 with fail
    obtain ⟨w6, hw6⟩ : ∃ x, x = w5.alloc (.cells #[.string ⟨#[67]⟩, .string ⟨#[79, 98, 106, 101, 99, 116]⟩, .slice none 0 0, .int .i64 1, .slice none 0 0, .slice (some ⟨g, 0, none⟩) 1 1] 27) := ⟨_, rfl⟩
    have c6 : Below w5.heap.size w5 w6 := by rw [hw6]; exact below_alR _ _
    have HM9 := (c6.block _ (Array.getElem?_eq_some_iff.1 HM5.out).1).trans HM5.out
    have hck := check_h (memA 1 [] [mthV ⟨#[109]⟩ false true 5]) (some ⟨w5.heap.size, 0, none⟩) 1 anyB w6 (mem_rd (by rw [hw6]; exact heap_alloc_new _ _) (RdX.nil _ _ _ _) (rd_m1 HM9)) (ckA_of (mem_t6 1 HKK.out).1)
    rw [show (memA 1 [] [mthV ⟨#[109]⟩ false true 5]).length = 1 from rfl, (mem_t6 1 HKK.out).2] at hck
    have HCK := Lib.hid hck
    have HB6 := Lib.hid (HB5.out.trans (c6.mono HB5.out.size))
    clear hck HM9 c6 HB5 HM5 HX5
    go_wp2_with fail
    rw [← hw6]
    clear hw6
    have hck := HCK.out
    clear HCK HKK
    simp at hck
    refine hck.mono ?_
    rintro e w7 ⟨rfl, hb7⟩
    have HB7 := Lib.hid (HB6.out.trans (hb7.mono HB6.out.size))
    clear hck hb7 x_l x_0 x_1 x_2 x_3 x_4 x_5
    go_wp2_with fail
    go_ret
    exact ⟨rfl, HB7.out⟩
  · go_upto_region 33 with fail
    obtain ⟨w6, hw6⟩ : ∃ x, x = w5.alloc (.cells #[.string ⟨#[67]⟩, .string ⟨#[79, 98, 106, 101, 99, 116]⟩, .slice none 0 0, .int .i64 2, .slice none 0 0, .slice (some ⟨g, 0, none⟩) 1 1] 27) := ⟨_, rfl⟩
    have c6 : Below w5.heap.size w5 w6 := by rw [hw6]; exact below_alR _ _
    have HM9 := (c6.block _ (Array.getElem?_eq_some_iff.1 HM5.out).1).trans HM5.out
    have hck := check_h (memA 2 [] [mthV ⟨#[109]⟩ false true 5]) (some ⟨w5.heap.size, 0, none⟩) 1 anyB w6 (mem_rd (by rw [hw6]; exact heap_alloc_new _ _) (RdX.nil _ _ _ _) (rd_m1 HM9)) (ckA_of (mem_t6 2 HKK.out).1)
    rw [show (memA 2 [] [mthV ⟨#[109]⟩ false true 5]).length = 1 from rfl, (mem_t6 2 HKK.out).2] at hck
    have HCK := Lib.hid hck
    have HB6 := Lib.hid (HB5.out.trans (c6.mono HB5.out.size))
    clear hck HM9 c6 HB5 HM5 HX5
    go_wp2_with fail
    rw [← hw6]
    clear hw6
    have hck := HCK.out
    clear HCK HKK
    simp at hck
    refine hck.mono ?_
    rintro e w7 ⟨rfl, hb7⟩
    have HB7 := Lib.hid (HB6.out.trans (hb7.mono HB6.out.size))
    clear hck hb7 x_l x_0 x_1 x_2 x_3 x_4 x_5
    go_wp2_with fail
    go_ret
    exact ⟨rfl, HB7.out⟩
  · go_upto_region 33 with fail
    obtain ⟨w6, hw6⟩ : ∃ x, x = w5.alloc (.cells #[.string ⟨#[67]⟩, .string ⟨#[79, 98, 106, 101, 99, 116]⟩, .slice none 0 0, .int .i64 3, .slice none 0 0, .slice (some ⟨g, 0, none⟩) 1 1] 27) := ⟨_, rfl⟩
    have c6 : Below w5.heap.size w5 w6 := by rw [hw6]; exact below_alR _ _
    have HM9 := (c6.block _ (Array.getElem?_eq_some_iff.1 HM5.out).1).trans HM5.out
    have hck := check_h (memA 3 [] [mthV ⟨#[109]⟩ false true 5]) (some ⟨w5.heap.size, 0, none⟩) 1 anyB w6 (mem_rd (by rw [hw6]; exact heap_alloc_new _ _) (RdX.nil _ _ _ _) (rd_m1 HM9)) (ckA_of (mem_t6 3 HKK.out).1)
    rw [show (memA 3 [] [mthV ⟨#[109]⟩ false true 5]).length = 1 from rfl, (mem_t6 3 HKK.out).2] at hck
    have HCK := Lib.hid hck
    have HB6 := Lib.hid (HB5.out.trans (c6.mono HB5.out.size))
    clear hck HM9 c6 HB5 HM5 HX5
    go_wp2_with fail
    rw [← hw6]
    clear hw6
    have hck := HCK.out
    clear HCK HKK
    simp at hck
    refine hck.mono ?_
    rintro e w7 ⟨rfl, hb7⟩
    have HB7 := Lib.hid (HB6.out.trans (hb7.mono HB6.out.size))
    clear hck hb7 x_l x_0 x_1 x_2 x_3 x_4 x_5
    go_wp2_with fail
    go_ret
    exact ⟨rfl, HB7.out⟩
  · go_upto_region 33 with fail
    obtain ⟨w6, hw6⟩ : ∃ x, x = w5.alloc (.cells #[.string ⟨#[67]⟩, .string ⟨#[79, 98, 106, 101, 99, 116]⟩, .slice none 0 0, .int .i64 4, .slice none 0 0, .slice (some ⟨g, 0, none⟩) 1 1] 27) := ⟨_, rfl⟩
    have c6 : Below w5.heap.size w5 w6 := by rw [hw6]; exact below_alR _ _
    have HM9 := (c6.block _ (Array.getElem?_eq_some_iff.1 HM5.out).1).trans HM5.out
    have hck := check_h (memA 4 [] [mthV ⟨#[109]⟩ false true 5]) (some ⟨w5.heap.size, 0, none⟩) 1 anyB w6 (mem_rd (by rw [hw6]; exact heap_alloc_new _ _) (RdX.nil _ _ _ _) (rd_m1 HM9)) (ckA_of (mem_t6 4 HKK.out).1)
    rw [show (memA 4 [] [mthV ⟨#[109]⟩ false true 5]).length = 1 from rfl, (mem_t6 4 HKK.out).2] at hck
    have HCK := Lib.hid hck
    have HB6 := Lib.hid (HB5.out.trans (c6.mono HB5.out.size))
    clear hck HM9 c6 HB5 HM5 HX5
    go_wp2_with fail
    rw [← hw6]
    clear hw6
    have hck := HCK.out
    clear HCK HKK
    simp at hck
    refine hck.mono ?_
    rintro e w7 ⟨rfl, hb7⟩
    have HB7 := Lib.hid (HB6.out.trans (hb7.mono HB6.out.size))
    clear hck hb7 x_l x_0 x_1 x_2 x_3 x_4 x_5
    go_wp2_with fail
    go_ret
    exact ⟨rfl, HB7.out⟩
theorem mem_t7 (K : Int) (h : K = 1 ∨ K = 2 ∨ K = 3 ∨ K = 4) : hkB (memA K [] [mthV ⟨#[99, 108, 105, 110, 105, 116]⟩ true false 5]) = true ∧ checkK (memA K [] [mthV ⟨#[99, 108, 105, 110, 105, 116]⟩ true false 5]) = if (K == 4) = true then (0, 25) else (0, 0) := by
  rcases h with rfl | rfl | rfl | rfl <;> exact ⟨by kernel_rfl, by kernel_rfl⟩
set_option maxHeartbeats 8000000 in
set_option maxRecDepth 100000 in
theorem mem_7 (kind what : Nat) (w : World) (hk : kind < 256) (hwl : what < 256) (hw : what % 9 = 7) :
    Calls Tryz.prog 6 #[.int .u8 (kind : Int), .int .u8 (what : Int)] w fun e w' => e = .returned (.bool true) ∧ Below w.heap.size w w' := by
  go_enter Tryz.func6, Tryz.ntmps6
  try simp only [List.append_eq, List.cons_append, List.nil_append]
  go_wp2_with fail
  refine (known_10 w).mono ?_
  rintro e w1 ⟨rfl, hb1⟩
  obtain ⟨kk, hkk, hkl⟩ : ∃ kk : Nat, (kind : Int).tmod 4 = (kk : Int) ∧ kk < 4 := ⟨kind % 4, by rw [Int.tmod_eq_emod_of_nonneg (Int.natCast_nonneg kind)]; omega, by omega⟩
  have hw9 : (what : Int).tmod 9 = 7 := by rw [Int.tmod_eq_emod_of_nonneg (Int.natCast_nonneg what)]; omega
  have v1 : IntKind.i64.wrap (kk : Int) = kk := IntWalk.i64_in _ (by omega)
  have v2 : IntKind.i64.wrap ((kk : Int) + 1) = (kk : Int) + 1 := IntWalk.i64_in _ (by omega)
  have HKK : Hid ((kk : Int) + 1 = 1 ∨ (kk : Int) + 1 = 2 ∨ (kk : Int) + 1 = 3 ∨ (kk : Int) + 1 = 4) := Lib.hid (by omega)
  obtain ⟨w2, hw2⟩ : ∃ x, x = w1.alloc (.cells #[.string ⟨#[67]⟩, .string ⟨#[79, 98, 106, 101, 99, 116]⟩, .slice none 0 0, .int .i64 ((kk : Int) + 1), .slice none 0 0, .slice none 0 0] 27) := ⟨_, rfl⟩
  have HX2 : Hid (w2.heap[w1.heap.size]? = some (.cells #[.string ⟨#[67]⟩, .string ⟨#[79, 98, 106, 101, 99, 116]⟩, .slice none 0 0, .int .i64 ((kk : Int) + 1), .slice none 0 0, .slice none 0 0] 27 (0, 0))) := Lib.hid (by rw [hw2]; exact heap_alloc_new _ _)
  have HB2 : Hid (Below w.heap.size w w2) := Lib.hid (by rw [hw2]; exact hb1.trans ((below_alR _ _).mono hb1.size))
  have HGE := Lib.hid hb1.size
  clear hb1
  go_upto_region 4 with fail
  rw [← hw2]
  clear hw2 v1 v2 hkk
  obtain ⟨xb, hxb⟩ : ∃ z, w1.heap.size = z := ⟨_, rfl⟩
  rw [hxb] at HX2 HGE ⊢
  clear hxb
  obtain ⟨K, hK⟩ : ∃ z, (kk : Int) + 1 = z := ⟨_, rfl⟩
  rw [hK] at HX2 HKK
  try rw [hK]
  clear hK hkl
  obtain ⟨x_l, x_c, x_f⟩ := boxN HX2.out
  have x_3 := x_c 3 _ rfl
  have x_s := x_c 5 _ rfl
  have x_z := x_f 5
  simp only [Nat.zero_add] at x_3 x_s
  clear x_c x_f
  go_upto_region 31 with fail
  go_wp2_with fail
  refine (method_l _ _ _ _ w2).mono ?_
  rintro e w3 ⟨rfl, hb3⟩
  have HB3 := Lib.hid (HB2.out.trans (hb3.mono HB2.out.size))
  have HX3 := Lib.hid ((hb3.block _ (Array.getElem?_eq_some_iff.1 HX2.out).1).trans HX2.out)
  clear hb3 HX2 HB2 x_l x_3 x_s x_z
  have HX2 := HX3
  have HB2 := HB3
  clear HX3 HB3
  obtain ⟨x_l, x_c, x_f⟩ := boxN HX2.out
  have x_3 := x_c 3 _ rfl
  have x_s := x_c 5 _ rfl
  have x_z := x_f 5
  simp only [Nat.zero_add] at x_3 x_s
  clear x_c x_f
  have k5 : Kpt [xb] w3 (w3.setCell ⟨xb, 5, none⟩ (.slice (some ⟨w3.heap.size, 0, none⟩) 1 1)) := Kpt.set _ _ _ _ _ (by simp)
  obtain ⟨w5, hw5⟩ : ∃ x, x = (w3.setCell ⟨xb, 5, none⟩ (.slice (some ⟨w3.heap.size, 0, none⟩) 1 1)).alloc (.cells #[.string ⟨#[99, 108, 105, 110, 105, 116]⟩, .slice none 0 0, .int .i64 5, .string ⟨#[]⟩, .bool true, .bool false, .int .i64 0, .slice none 0 0, .slice none 0 0] 42) := ⟨_, rfl⟩
  have c5 : Below w3.heap.size (w3.setCell ⟨xb, 5, none⟩ (.slice (some ⟨w3.heap.size, 0, none⟩) 1 1)) w5 := by rw [hw5]; exact (below_alR _ _).mono (by simp)
  have HX5 : Hid (w5.heap[xb]? = some (.cells #[.string ⟨#[67]⟩, .string ⟨#[79, 98, 106, 101, 99, 116]⟩, .slice none 0 0, .int .i64 K, .slice none 0 0, .slice (some ⟨w3.heap.size, 0, none⟩) 1 1] 27 (0, 0))) := Lib.hid (by rw [c5.block _ x_l, heap_setCell_same _ _ 5 _ _ _ HX2.out]; rfl)
  have HM5 : Hid (w5.heap[w3.heap.size]? = some (.cells #[.string ⟨#[99, 108, 105, 110, 105, 116]⟩, .slice none 0 0, .int .i64 5, .string ⟨#[]⟩, .bool true, .bool false, .int .i64 0, .slice none 0 0, .slice none 0 0] 42 (0, 0))) := Lib.hid (by rw [hw5]; have := heap_alloc_new (w3.setCell ⟨xb, 5, none⟩ (.slice (some ⟨w3.heap.size, 0, none⟩) 1 1)) (.cells #[.string ⟨#[99, 108, 105, 110, 105, 116]⟩, .slice none 0 0, .int .i64 5, .string ⟨#[]⟩, .bool true, .bool false, .int .i64 0, .slice none 0 0, .slice none 0 0] 42); rwa [World.size_setCell] at this)
  have HB5 : Hid (Below w.heap.size w w5) := Lib.hid ((HB2.out.trans (k5.below (B := w.heap.size) (fun x hx => by simp at hx; have := HGE.out; omega) HB2.out.size)).trans (c5.mono HB2.out.size))
  clear k5 c5 HB2
  go_upto_region 32 with fail
  rw [← hw5]
  clear hw5 x_l x_3 x_s x_z HX2
  obtain ⟨g, hg⟩ : ∃ z, w3.heap.size = z := ⟨_, rfl⟩
  rw [hg] at HX5 HM5
  try rw [hg]
  clear hg
  obtain ⟨x_l, x_c, -⟩ := boxN HX5.out
  have x_0 := x_c 0 _ rfl
  have x_1 := x_c 1 _ rfl
  have x_2 := x_c 2 _ rfl
  have x_3 := x_c 3 _ rfl
  have x_4 := x_c 4 _ rfl
  have x_5 := x_c 5 _ rfl
  simp only [Nat.zero_add] at x_0 x_1 x_2 x_3 x_4 x_5
  clear x_c
  go_upto_region 33 with fail
  obtain ⟨w6, hw6⟩ : ∃ x, x = w5.alloc (.cells #[.string ⟨#[67]⟩, .string ⟨#[79, 98, 106, 101, 99, 116]⟩, .slice none 0 0, .int .i64 K, .slice none 0 0, .slice (some ⟨g, 0, none⟩) 1 1] 27) := ⟨_, rfl⟩
  have c6 : Below w5.heap.size w5 w6 := by rw [hw6]; exact below_alR _ _
  have HM9 := (c6.block _ (Array.getElem?_eq_some_iff.1 HM5.out).1).trans HM5.out
  have hck := check_h (memA K [] [mthV ⟨#[99, 108, 105, 110, 105, 116]⟩ true false 5]) (some ⟨w5.heap.size, 0, none⟩) 1 anyB w6 (mem_rd (by rw [hw6]; exact heap_alloc_new _ _) (RdX.nil _ _ _ _) (rd_m1 HM9)) (ckA_of (mem_t7 K HKK.out).1)
  rw [show (memA K [] [mthV ⟨#[99, 108, 105, 110, 105, 116]⟩ true false 5]).length = 1 from rfl, (mem_t7 K HKK.out).2] at hck
  have HCK := Lib.hid hck
  have HB6 := Lib.hid (HB5.out.trans (c6.mono HB5.out.size))
  clear hck HM9 c6 HB5 HM5 HX5
  go_wp2_with fail
  rw [← hw6]
  clear hw6
  have hck := HCK.out
  have hkk := HKK.out
  clear HCK HKK
  rcases hkk with rfl | rfl | rfl | rfl
  all_goals
    simp at hck
    refine hck.mono ?_
    rintro e w7 ⟨rfl, hb7⟩
    have HB7 := Lib.hid (HB6.out.trans (hb7.mono HB6.out.size))
    clear hck hb7 x_l x_0 x_1 x_2 x_3 x_4 x_5
    go_wp2_with fail
    go_ret
    exact ⟨rfl, HB7.out⟩
theorem mem_t8 (K : Int) (h : K = 1 ∨ K = 2 ∨ K = 3 ∨ K = 4) : hkB (memA K [] [mthV ⟨#[99, 108, 105, 110, 105, 116]⟩ true false 1]) = true ∧ checkK (memA K [] [mthV ⟨#[99, 108, 105, 110, 105, 116]⟩ true false 1]) = if true = true then (0, 25) else (0, 0) := by
  rcases h with rfl | rfl | rfl | rfl <;> exact ⟨by kernel_rfl, by kernel_rfl⟩
set_option maxHeartbeats 8000000 in
set_option maxRecDepth 100000 in
theorem mem_8 (kind what : Nat) (w : World) (hk : kind < 256) (hwl : what < 256) (hw : what % 9 = 8) :
    Calls Tryz.prog 6 #[.int .u8 (kind : Int), .int .u8 (what : Int)] w fun e w' => e = .returned (.bool true) ∧ Below w.heap.size w w' := by
  go_enter Tryz.func6, Tryz.ntmps6
  try simp only [List.append_eq, List.cons_append, List.nil_append]
  go_wp2_with fail
  refine (known_10 w).mono ?_
  rintro e w1 ⟨rfl, hb1⟩
  obtain ⟨kk, hkk, hkl⟩ : ∃ kk : Nat, (kind : Int).tmod 4 = (kk : Int) ∧ kk < 4 := ⟨kind % 4, by rw [Int.tmod_eq_emod_of_nonneg (Int.natCast_nonneg kind)]; omega, by omega⟩
  have hw9 : (what : Int).tmod 9 = 8 := by rw [Int.tmod_eq_emod_of_nonneg (Int.natCast_nonneg what)]; omega
  have v1 : IntKind.i64.wrap (kk : Int) = kk := IntWalk.i64_in _ (by omega)
  have v2 : IntKind.i64.wrap ((kk : Int) + 1) = (kk : Int) + 1 := IntWalk.i64_in _ (by omega)
  have HKK : Hid ((kk : Int) + 1 = 1 ∨ (kk : Int) + 1 = 2 ∨ (kk : Int) + 1 = 3 ∨ (kk : Int) + 1 = 4) := Lib.hid (by omega)
  obtain ⟨w2, hw2⟩ : ∃ x, x = w1.alloc (.cells #[.string ⟨#[67]⟩, .string ⟨#[79, 98, 106, 101, 99, 116]⟩, .slice none 0 0, .int .i64 ((kk : Int) + 1), .slice none 0 0, .slice none 0 0] 27) := ⟨_, rfl⟩
  have HX2 : Hid (w2.heap[w1.heap.size]? = some (.cells #[.string ⟨#[67]⟩, .string ⟨#[79, 98, 106, 101, 99, 116]⟩, .slice none 0 0, .int .i64 ((kk : Int) + 1), .slice none 0 0, .slice none 0 0] 27 (0, 0))) := Lib.hid (by rw [hw2]; exact heap_alloc_new _ _)
  have HB2 : Hid (Below w.heap.size w w2) := Lib.hid (by rw [hw2]; exact hb1.trans ((below_alR _ _).mono hb1.size))
  have HGE := Lib.hid hb1.size
  clear hb1
  go_upto_region 4 with fail
  rw [← hw2]
  clear hw2 v1 v2 hkk
  obtain ⟨xb, hxb⟩ : ∃ z, w1.heap.size = z := ⟨_, rfl⟩
  rw [hxb] at HX2 HGE ⊢
  clear hxb
  obtain ⟨K, hK⟩ : ∃ z, (kk : Int) + 1 = z := ⟨_, rfl⟩
  rw [hK] at HX2 HKK
  try rw [hK]
  clear hK hkl
  obtain ⟨x_l, x_c, x_f⟩ := boxN HX2.out
  have x_3 := x_c 3 _ rfl
  have x_s := x_c 5 _ rfl
  have x_z := x_f 5
  simp only [Nat.zero_add] at x_3 x_s
  clear x_c x_f
  go_upto_region 7 with fail
  go_wp2_with fail
  refine (method_l _ _ _ _ w2).mono ?_
  rintro e w3 ⟨rfl, hb3⟩
  have HB3 := Lib.hid (HB2.out.trans (hb3.mono HB2.out.size))
  have HX3 := Lib.hid ((hb3.block _ (Array.getElem?_eq_some_iff.1 HX2.out).1).trans HX2.out)
  clear hb3 HX2 HB2 x_l x_3 x_s x_z
  have HX2 := HX3
  have HB2 := HB3
  clear HX3 HB3
  obtain ⟨x_l, x_c, x_f⟩ := boxN HX2.out
  have x_3 := x_c 3 _ rfl
  have x_s := x_c 5 _ rfl
  have x_z := x_f 5
  simp only [Nat.zero_add] at x_3 x_s
  clear x_c x_f
  have k5 : Kpt [xb] w3 (w3.setCell ⟨xb, 5, none⟩ (.slice (some ⟨w3.heap.size, 0, none⟩) 1 1)) := Kpt.set _ _ _ _ _ (by simp)
  obtain ⟨w5, hw5⟩ : ∃ x, x = (w3.setCell ⟨xb, 5, none⟩ (.slice (some ⟨w3.heap.size, 0, none⟩) 1 1)).alloc (.cells #[.string ⟨#[99, 108, 105, 110, 105, 116]⟩, .slice none 0 0, .int .i64 1, .string ⟨#[]⟩, .bool true, .bool false, .int .i64 0, .slice none 0 0, .slice none 0 0] 42) := ⟨_, rfl⟩
  have c5 : Below w3.heap.size (w3.setCell ⟨xb, 5, none⟩ (.slice (some ⟨w3.heap.size, 0, none⟩) 1 1)) w5 := by rw [hw5]; exact (below_alR _ _).mono (by simp)
  have HX5 : Hid (w5.heap[xb]? = some (.cells #[.string ⟨#[67]⟩, .string ⟨#[79, 98, 106, 101, 99, 116]⟩, .slice none 0 0, .int .i64 K, .slice none 0 0, .slice (some ⟨w3.heap.size, 0, none⟩) 1 1] 27 (0, 0))) := Lib.hid (by rw [c5.block _ x_l, heap_setCell_same _ _ 5 _ _ _ HX2.out]; rfl)
  have HM5 : Hid (w5.heap[w3.heap.size]? = some (.cells #[.string ⟨#[99, 108, 105, 110, 105, 116]⟩, .slice none 0 0, .int .i64 1, .string ⟨#[]⟩, .bool true, .bool false, .int .i64 0, .slice none 0 0, .slice none 0 0] 42 (0, 0))) := Lib.hid (by rw [hw5]; have := heap_alloc_new (w3.setCell ⟨xb, 5, none⟩ (.slice (some ⟨w3.heap.size, 0, none⟩) 1 1)) (.cells #[.string ⟨#[99, 108, 105, 110, 105, 116]⟩, .slice none 0 0, .int .i64 1, .string ⟨#[]⟩, .bool true, .bool false, .int .i64 0, .slice none 0 0, .slice none 0 0] 42); rwa [World.size_setCell] at this)
  have HB5 : Hid (Below w.heap.size w w5) := Lib.hid ((HB2.out.trans (k5.below (B := w.heap.size) (fun x hx => by simp at hx; have := HGE.out; omega) HB2.out.size)).trans (c5.mono HB2.out.size))
  clear k5 c5 HB2
  go_upto_region 8 with fail
  rw [← hw5]
  clear hw5 x_l x_3 x_s x_z HX2
  obtain ⟨g, hg⟩ : ∃ z, w3.heap.size = z := ⟨_, rfl⟩
  rw [hg] at HX5 HM5
  try rw [hg]
  clear hg
  obtain ⟨x_l, x_c, -⟩ := boxN HX5.out
  have x_0 := x_c 0 _ rfl
  have x_1 := x_c 1 _ rfl
  have x_2 := x_c 2 _ rfl
  have x_3 := x_c 3 _ rfl
  have x_4 := x_c 4 _ rfl
  have x_5 := x_c 5 _ rfl
  simp only [Nat.zero_add] at x_0 x_1 x_2 x_3 x_4 x_5
  clear x_c
  go_upto_region 33 with fail
  obtain ⟨w6, hw6⟩ : ∃ x, x = w5.alloc (.cells #[.string ⟨#[67]⟩, .string ⟨#[79, 98, 106, 101, 99, 116]⟩, .slice none 0 0, .int .i64 K, .slice none 0 0, .slice (some ⟨g, 0, none⟩) 1 1] 27) := ⟨_, rfl⟩
  have c6 : Below w5.heap.size w5 w6 := by rw [hw6]; exact below_alR _ _
  have HM9 := (c6.block _ (Array.getElem?_eq_some_iff.1 HM5.out).1).trans HM5.out
  have hck := check_h (memA K [] [mthV ⟨#[99, 108, 105, 110, 105, 116]⟩ true false 1]) (some ⟨w5.heap.size, 0, none⟩) 1 anyB w6 (mem_rd (by rw [hw6]; exact heap_alloc_new _ _) (RdX.nil _ _ _ _) (rd_m1 HM9)) (ckA_of (mem_t8 K HKK.out).1)
  rw [show (memA K [] [mthV ⟨#[99, 108, 105, 110, 105, 116]⟩ true false 1]).length = 1 from rfl, (mem_t8 K HKK.out).2] at hck
  have HCK := Lib.hid hck
  have HB6 := Lib.hid (HB5.out.trans (c6.mono HB5.out.size))
  clear hck HM9 c6 HB5 HM5 HX5
  go_wp2_with fail
  rw [← hw6]
  clear hw6
  have hck := HCK.out
  have hkk := HKK.out
  clear HCK HKK
  rcases hkk with rfl | rfl | rfl | rfl
  all_goals
    simp at hck
    refine hck.mono ?_
    rintro e w7 ⟨rfl, hb7⟩
    have HB7 := Lib.hid (HB6.out.trans (hb7.mono HB6.out.size))
    clear hck hb7 x_l x_0 x_1 x_2 x_3 x_4 x_5
    go_wp2_with fail
    go_ret
    exact ⟨rfl, HB7.out⟩
theorem mem_l (kind what : Nat) (w : World) (hk : kind < 256) (hwl : what < 256) :
    Calls Tryz.prog 6 #[.int .u8 (kind : Int), .int .u8 (what : Int)] w fun e w' => e = .returned (.bool true) ∧ Below w.heap.size w w' := by
  have h : what % 9 = 0 ∨ what % 9 = 1 ∨ what % 9 = 2 ∨ what % 9 = 3 ∨ what % 9 = 4 ∨ what % 9 = 5 ∨ what % 9 = 6 ∨ what % 9 = 7 ∨ what % 9 = 8 := by omega
  rcases h with h | h | h | h | h | h | h | h | h
  · exact mem_0 kind what w hk hwl h
  · exact mem_1 kind what w hk hwl h
  · exact mem_2 kind what w hk hwl h
  · exact mem_3 kind what w hk hwl h
  · exact mem_4 kind what w hk hwl h
  · exact mem_5 kind what w hk hwl h
  · exact mem_6 kind what w hk hwl h
  · exact mem_7 kind what w hk hwl h
  · exact mem_8 kind what w hk hwl h
end Go.Proofs.YtlmpnmnfloeoiaaGreat.R
