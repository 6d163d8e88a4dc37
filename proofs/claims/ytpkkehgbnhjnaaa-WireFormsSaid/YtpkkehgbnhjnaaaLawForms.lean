/- WireForms: a number with noughts behind it, or with nine bytes that all go on, is none. -/
import Derived.Test.YtpkkehgbnhjnaaaArgs
namespace Go.Proofs.Ytpkkehgbnhjnaaa
open Go.RowKit

theorem dec_nought (m : Nat) (l : List UInt8) : ∀ (cs : List UInt8) (i v : Nat), (∀ c ∈ cs, 128 ≤ c.toNat) → i ≤ 9 → 0 < i + cs.length → dec m (cs ++ 0 :: l) i v = (0, 0, 21)
  | [], i, v, _, hi, h0 => by
    simp only [List.length_nil, Nat.add_zero] at h0
    rw [List.nil_append, dec]
    by_cases h9 : i = 9
    · rw [if_pos h9]
    · rw [if_neg h9, if_pos (by decide)]
      unfold wholeR
      rw [if_pos ⟨rfl, by omega⟩]
  | c :: cs, i, v, hc, hi, _ => by
    rw [List.cons_append, dec]
    have h1 := hc c (by simp)
    by_cases h9 : i = 9
    · rw [if_pos h9]
    · rw [if_neg h9, if_neg (by omega)]
      exact dec_nought m l cs (i + 1) _ (fun x hx => hc x (by simp [hx])) (by omega) (by omega)

theorem dec_nine (m : Nat) (l : List UInt8) : ∀ (cs : List UInt8) (i v : Nat), (∀ c ∈ cs, 128 ≤ c.toNat) → i ≤ 9 → 9 ≤ i + cs.length → dec m (cs ++ l) i v = (0, 0, 21)
  | [], i, v, _, hi, h0 => by
    simp only [List.length_nil, Nat.add_zero] at h0
    rw [List.nil_append, dec_end m i v hi l (.inr (by omega)), if_neg (by omega)]
  | c :: cs, i, v, hc, hi, h0 => by
    rw [List.cons_append, dec]
    have h1 := hc c (by simp)
    rw [List.length_cons] at h0
    by_cases h9 : i = 9
    · rw [if_pos h9]
    · rw [if_neg h9, if_neg (by omega)]
      exact dec_nine m l cs (i + 1) _ (fun x hx => hc x (by simp [hx])) (by omega) (by omega)

/-- bytes that all go on -/
def Over (cs : List UInt8) : Prop := ∀ c ∈ cs, 128 ≤ c.toNat

theorem Over.snoc {cs : List UInt8} {c : UInt8} (h : Over cs) (hc : 128 ≤ c.toNat) : Over (cs ++ [c]) := by
  intro x hx
  rcases List.mem_append.1 hx with hx | hx
  · exact h x hx
  · simp at hx; subst hx; exact hc

def nine : List UInt8 := [255, 255, 255, 255, 255, 255, 255, 255, 255]

theorem numR_of_dec {bs : List UInt8} {m x : Nat} (h : dec m bs 0 0 = (0, 0, x)) (hx : x ≠ 0) : numR bs 0 0 m = (0, 0, x) := by
  unfold numR lookR
  rw [if_pos rfl, List.drop_zero, h]
  simp [hx]

theorem nb_last : ∀ (f u : Nat), u < f → ∃ (ini : List UInt8) (t : Nat), t < 128 ∧ nb u = ini ++ [UInt8.ofNat t] ∧ ∀ c ∈ ini, 128 ≤ c.toNat
  | 0, _, h => by omega
  | f + 1, u, h => by
    by_cases hu : u < 128
    · exact ⟨[], u, hu, by rw [nb_small hu]; rfl, fun c hc => by cases hc⟩
    · obtain ⟨ini, t, ht, he, hi⟩ := nb_last f (u / 128) (by omega)
      refine ⟨goOn u :: ini, t, ht, by rw [nb_big hu, he]; rfl, fun c hc => ?_⟩
      rcases List.mem_cons.1 hc with rfl | hc
      · rw [goOn_toNat]; omega
      · exact hi c hc

theorem Own.last {w : World} {B : Nat} {v : Value} {ini : List UInt8} {x : UInt8} (h : Own w B v (ini ++ [x])) :
    ∃ g cap, v = .slice (some ⟨g, 0, none⟩) (ini.length + 1) cap ∧ B ≤ g ∧ w.cell? ⟨g, ini.length, none⟩ = some (u8 x) ∧ w.frozen? ⟨g, ini.length, none⟩ = false ∧
      ∀ y, Own (w.setCell ⟨g, ini.length, none⟩ (u8 y)) B v (ini ++ [y]) ∧ w.grownBy (w.setCell ⟨g, ini.length, none⟩ (u8 y)) (some g) := by
  have hl : (ini ++ [x]).length = ini.length + 1 := by simp
  have h' := h
  rcases h.2 with ⟨rfl, hn⟩ | ⟨g, cap, cur, rfl, hb, hg, h1, h2, h3, h4⟩
  · rw [hl] at hn; omega
  · rw [hl]
    refine ⟨g, cap, rfl, hb, ?_, World.ownsRow.frozenAt h' _, fun y => ?_⟩
    · rw [World.ownsRow.cellAt h' ini.length (by rw [hl]; omega)]
      simp
    · obtain ⟨r1, r2⟩ := World.ownsRow.stored h' ini.length (u8 y)
      refine ⟨?_, r2⟩
      have e1 : ((ini ++ [x]).map u8).set ini.length (u8 y) = (ini ++ [y]).map u8 := by simp
      rw [e1] at r1
      unfold Own
      rw [show (ini ++ [y]).length = (ini ++ [x]).length from by simp, hl]
      rw [hl] at r1
      exact r1

set_option maxHeartbeats 400000 in
set_option maxRecDepth 100000 in
theorem forms_long (n k : Int) (v0 : Value) (l : List UInt8) (w : World) (hr : Rd w v0 l) (hl : 10 < l.length) :
    Calls Try.prog 6 #[.int .i64 n, .int .u8 k, v0] w fun e w' => e = .returned (.bool true) ∧ Below w.heap.size w w' := by
  obtain ⟨p, c, rfl, _⟩ := hr
  go_enter Try.func6, Try.ntmps6
  go_wp2_with fail
  refine (known_any _).mono ?_
  rintro e w1 ⟨rfl, hb1⟩
  go_wp2
  go_ret
  exact ⟨rfl, hb1⟩

set_option maxHeartbeats 1000000 in
set_option maxRecDepth 100000 in
theorem forms_short (n : Int) (k : Nat) (v0 : Value) (l : List UInt8) (w : World) (hr : Rd w v0 l) (hv : l = [] ∨ ∀ g, v0.ownBlock = some g → g < w.heap.size) (hl : l.length ≤ 10)
    (h1 : -9223372036854775808 ≤ n) (h2 : n ≤ 9223372036854775807) (hk : k < 256) :
    Calls Try.prog 6 #[.int .i64 n, .int .u8 k, v0] w fun e w' => e = .returned (.bool true) ∧ Below w.heap.size w w' := by
  obtain ⟨p, c, rfl, _⟩ := id hr
  obtain ⟨ini, t, ht, hnb, hini⟩ := nb_last (cnt n + 1) (cnt n) (by omega)
  have hlen : ini.length + 1 ≤ 10 := by have := nb_len10 (toNat_u64 h2).out; rw [hnb] at this; simpa using this
  have hor : bits .or .u8 (t : Int) 128 = (t : Int) + 128 := by rw [or128s t ht]; omega
  have hor2 : u8 (goOn t) = .int .u8 ((t : Int) + 128) := by rw [u8_goOn]; exact int_eq (by omega)
  have hL0 : ((ini.length : Int) + 1 == 0) = false := beq_eq_false_iff_ne.2 (by omega)
  have HNB := Lib.hid hnb
  have HINI := Lib.hid hini
  have HO2 := Lib.hid hor2
  have HR := Lib.hid hr
  have HV := Lib.hid hv
  clear hnb hini hor2 hr hv
  go_enter Try.func6, Try.ntmps6
  go_wp2_with fail
  refine (known_any _).mono ?_
  rintro e w1 ⟨rfl, hB1⟩
  have hs1 := hB1.size
  go_wp2_with fail
  refine (num_any (.slice none 0 0) _ [] [n] _ (rd_nil _) (.inl rfl) (by simp) (rdI_new1 w1 n _ (by omega) (by omega)) (.inr fun g hg => by cases hg; simp) (by simp)).mono ?_
  rintro e w2 ⟨v2, rfl, ho2, hb2⟩
  have hB2 : Below w.heap.size w w2 := (hB1.alloc hs1 _).trans (hb2.mono (by simp; omega))
  have hs2 := hB2.size
  rw [List.nil_append, nums_one, HNB.out] at ho2
  obtain ⟨g, cap, rfl, hg, hcell, hfro, hst⟩ := ho2.last
  have hg' : w.heap.size ≤ g := by simp at hg; omega
  have hcell' : w2.cell? ⟨g, ini.length, none⟩ = some (.int .u8 (t : Int)) := by rw [hcell, u8_ofNat (by omega)]
  have hs3 := hst (goOn t)
  rw [HO2.out] at hs3
  have hB3 : Below w.heap.size w (w2.setCell ⟨g, ini.length, none⟩ (.int .u8 ((t : Int) + 128))) := hB2.setCell hg' _
  have ho3 := hs3.1.mono (B' := w.heap.size) (by simp; omega)
  have hov : Over (ini ++ [goOn t]) := by
    intro c hc
    rcases List.mem_append.1 hc with hc | hc
    · exact HINI.out c hc
    · simp at hc; subst hc; rw [goOn_toNat]; omega
  clear hb2 hB1 hs1 hcell hst ho2 hs3 hB2
  go_wp2
  go_loopw [7, 8] (fun b i wr => ∃ (j : Nat) (cs : List UInt8), i = .int .i64 j ∧ j ≤ k % 4 ∧ Own wr w.heap.size b cs ∧ Over cs ∧ cs.length = ini.length + 1 + j ∧ Below w.heap.size w wr) (fun _ i _ => k % 4 - (intOf i).toNat)
  case atStart => exact ⟨0, ini ++ [goOn t], rfl, by omega, ho3, hov, by simp, hB3⟩
  case round =>
    clear hcell' hfro ho3 hov hB3
    obtain ⟨j, cs, rfl, hj, ho, hov, hcl, hB⟩ := hrel
    have hs := hB.size
    have hcl2 : cs.length ≤ 20 := by omega
    have HCL := Lib.hid hcl
    clear hcl
    by_cases hlt : j < k % 4
    · go_wp2_with (at_builtin; refine wp_app rfl _ _ rfl w.heap.size _ cs rfl (ho.alloc _) _ [128] rfl (rd_new1 _ _ _ _ rfl) ?d1 ?d2 ?_)
      case d1 => simp; omega
      case d2 => simp; omega
      intro v5 w5 ho5 hg5 _
      have hB5 : Below w.heap.size w w5 := (hB.alloc hs _).grown hg5 (by simp; omega) (fun k hk => (ho.lt k hk).1)
      have hov5 : Over (cs ++ [128]) := hov.snoc (by decide)
      clear hg5 ho hov
      go_wp2
      go_roundw
      case rel => exact ⟨j + 1, cs ++ [128], by go_num, by omega, ho5, hov5, by have := HCL.out; simp; omega, hB5⟩
      case measure => simp [intOf]; omega
    · go_wp2_with (at_builtin; refine wp_app rfl _ _ rfl w.heap.size _ cs rfl (ho.alloc _) _ [0] rfl (rd_new1 _ _ _ _ rfl) ?d1 ?d2 ?_)
      case d1 => simp; omega
      case d2 => simp; omega
      intro v5 w5 ho5 hg5 _
      have hB5 : Below w.heap.size w w5 := (hB.alloc hs _).grown hg5 (by simp; omega) (fun k hk => (ho.lt k hk).1)
      have hs5 := hB5.size
      have hr5 := HR.out.below hB5 HV.out
      clear hg5 ho
      go_wp2_with (at_builtin; refine wp_app rfl _ _ rfl w.heap.size _ (cs ++ [0]) rfl ho5 _ l rfl hr5 ?d3 ?d4 ?_)
      case d3 => simp; omega
      case d4 => omega
      intro v6 w6 ho6 hg6 _
      have hB6 : Below w.heap.size w w6 := hB5.grown hg6 hs5 (fun k hk => (ho5.lt k hk).1)
      have hs6 := hB6.size
      clear hg6 ho5 hr5 hB5 hs5
      go_wp2_with fail
      refine (new_any v6 _ _ ho6.rd (.inr fun g hg => (ho6.lt g hg).2) (by simp; omega)).mono ?_
      rintro e w7 ⟨r, rfl, hr7, hb7⟩
      have hB7 : Below w.heap.size w w7 := hB6.trans (hb7.mono hs6)
      have hrb : w.heap.size ≤ r := Nat.le_trans hs6 hr7.1
      have hs7 := hB7.size
      have hn7 : numR (cs ++ 0 :: l) 0 0 (cnt 9223372036854775807) = (0, 0, 21) := by
        refine numR_of_dec ?_ (by decide)
        exact dec_nought _ l cs 0 0 hov (by omega) (by have := HCL.out; omega)
      have hl7 : (cs ++ 0 :: l).length ≤ 400000 := by simp; omega
      have HN7 := Lib.hid hn7
      clear hb7 ho6 hB6 hs6 hn7
      go_wp2_with fail
      refine (rnum_at HN7.out hr7 (by decide) hl7 (by decide) (by decide)).mono ?_
      rintro e w8 ⟨rfl, hg8⟩
      have hB8 : Below w.heap.size w w8 := hB7.trans (hg8.below hs7 hrb)
      have hr8 := hg8.1
      have hs8 := hB8.size
      have hm8 := HR.out.below (hB8.alloc hs8 (.cells #[.int .u8 255, .int .u8 255, .int .u8 255, .int .u8 255, .int .u8 255, .int .u8 255, .int .u8 255, .int .u8 255, .int .u8 255] 5)) HV.out
      clear hg8 hr7 hB7 hs7
      go_wp2_with (at_builtin; refine wp_app rfl _ _ rfl w8.heap.size _ nine rfl (Own.lit (w := w8) (B := w8.heap.size) _ nine rfl (Nat.le_refl _) (by decide)) _ l rfl hm8 ?d5 ?d6 ?_)
      case d5 => simp [nine]; omega
      case d6 => simp
      intro v9 w9 ho9 hg9 _
      have hb9 : Below w8.heap.size w8 w9 := ((Below.refl _ w8).alloc (Nat.le_refl _) _).grown hg9 (by simp) (by intro k hk; simp [Value.ownBlock] at hk; omega)
      have hB9 : Below w.heap.size w w9 := hB8.trans (hb9.mono hs8)
      have hr9 := hr8.below hb9 (Nat.le_refl _)
      have hs9 := hB9.size
      clear hg9 hb9 hm8 hr8 hB8 hs8
      go_wp2_with fail
      refine (new_any v9 _ _ ho9.rd (.inr fun g hg => (ho9.lt g hg).2) (by simp [nine]; omega)).mono ?_
      rintro e w10 ⟨x, rfl, hx10, hb10⟩
      have hB10 : Below w.heap.size w w10 := hB9.trans (hb10.mono hs9)
      have hxb : w.heap.size ≤ x := Nat.le_trans hs9 hx10.1
      have hrx : r < x := Nat.lt_of_lt_of_le hr9.lt hx10.1
      have hr10 := hr9.below hb10 (Nat.le_refl _)
      have hs10 := hB10.size
      have hn10 : numR (nine ++ l) 0 0 (cnt 9223372036854775807) = (0, 0, 21) := by
        refine numR_of_dec ?_ (by decide)
        exact dec_nine _ l nine 0 0 (by decide) (by omega) (by decide)
      have hl10 : (nine ++ l).length ≤ 400000 := by simp [nine]; omega
      have HN10 := Lib.hid hn10
      clear hb10 ho9 hr9 hB9 hs9 hn10
      go_wp2_with fail
      refine (rnum_at HN10.out hx10 (by decide) hl10 (by decide) (by decide)).mono ?_
      rintro e w11 ⟨rfl, hg11⟩
      have hB11 : Below w.heap.size w w11 := hB10.trans (hg11.below hs10 hxb)
      have hx11 := hg11.1
      have hr11 := hr10.other2 hg11 hrx
      clear hg11 hx10 hr10 hB10 hs10
      go_wp2_with fail
      refine (rerr_any _ _ _ _ _ _ hr11).mono ?_
      rintro e w12 ⟨rfl, rfl⟩
      go_wp2_with fail
      refine (rerr_any _ _ _ _ _ _ hx11).mono ?_
      rintro e w12 ⟨rfl, rfl⟩
      go_wp2_with fail
      refine (rdone_any _ _ _ _ _ _ hr11 hl7).mono ?_
      rintro e w13 ⟨rfl, n13, rfl⟩
      rw [decide_eq_false (show ¬(21 = 0 ∧ 0 = (cs ++ 0 :: l).length) from fun h => by omega)]
      go_wp2
      go_ret
      exact ⟨rfl, below_drewN' hB11 _⟩

end Go.Proofs.Ytpkkehgbnhjnaaa
