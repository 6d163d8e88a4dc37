/- WireStops: behind an error nothing more is told, and the first error stays. -/
import Derived.Test.YtpkkehgbnhjnaaaStop
namespace Go.Proofs.Ytpkkehgbnhjnaaa
open Go.RowKit

theorem dec_over (m : Nat) : ∀ (l : List UInt8) (i v : Nat), i ≤ 9 → m < v → (dec m l i v).2.2 ≠ 0
  | [], i, v, _, _ => by
    unfold dec
    by_cases h : i < 9 <;> simp [h]
  | c :: l, i, v, hi, hm => by
    unfold dec
    by_cases h9 : i = 9
    · simp [h9]
    · rw [if_neg h9]
      by_cases hc : c.toNat < 128
      · rw [if_pos hc]
        unfold wholeR
        split
        · simp
        · rw [if_pos (by omega)]; simp
      · rw [if_neg hc]
        exact dec_over m l (i + 1) _ (by omega) (by omega)

theorem stops_num (l : List UInt8) : ∃ e, numR (255 :: l) 0 0 (cnt 0) = (0, 0, e) ∧ e ≠ 0 ∧ e < 100 := by
  have hd : dec (cnt 0) (255 :: l) 0 0 = dec (cnt 0) l 1 127 := by
    rw [dec, if_neg (by decide), if_neg (by decide)]
    rfl
  have h0 := dec_over (cnt 0) l 1 127 (by omega) (by decide)
  have hf := dec_facts (cnt 0) l 1 127 (by omega)
  refine ⟨(dec (cnt 0) l 1 127).2.2, ?_, h0, hf.2.2.2⟩
  unfold numR lookR
  rw [if_pos rfl, List.drop_zero, hd, if_neg h0]

set_option maxHeartbeats 400000 in
set_option maxRecDepth 100000 in
theorem stops_long (v0 : Value) (l : List UInt8) (a : Option Addr) (len cap : Nat) (w : World) (hr : Rd w v0 l) (hl : 30 < l.length ∨ 20 < len) (hl1 : l.length ≤ 9223372036854775807) (hl2 : len ≤ 9223372036854775807) :
    Calls Try.prog 8 #[v0, .slice a len cap] w fun e w' => e = .returned (.bool true) ∧ Below w.heap.size w w' := by
  obtain ⟨p, c, rfl, _⟩ := hr
  by_cases h30 : 30 < l.length
  all_goals
    go_enter Try.func8, Try.ntmps8
    go_wp2_with fail
    refine (known_any _).mono ?_
    rintro e w1 ⟨rfl, hb1⟩
    go_wp2
    go_ret
    exact ⟨rfl, hb1⟩

set_option maxHeartbeats 1000000 in
set_option maxRecDepth 100000 in
theorem stops_short (v0 : Value) (l : List UInt8) (a : Option Addr) (len cap : Nat) (A M : Nat → Int) (w : World) (hr : Rd w v0 l) (hv : l = [] ∨ ∀ g, v0.ownBlock = some g → g < w.heap.size) (hl : l.length ≤ 30) (hn : len ≤ 20)
    (hi : IsActs w a len cap A M) :
    Calls Try.prog 8 #[v0, .slice a len cap] w fun e w' => e = .returned (.bool true) ∧ Below w.heap.size w w' := by
  obtain ⟨p, c, rfl, _⟩ := id hr
  have HR := Lib.hid hr
  have HV := Lib.hid hv
  have HI := Lib.hid hi
  clear hr hv hi
  go_enter Try.func8, Try.ntmps8
  go_wp2_with fail
  refine (known_any _).mono ?_
  rintro e w1 ⟨rfl, hB1⟩
  have hs1 := hB1.size
  have hm1 := HR.out.below (hB1.alloc hs1 (.cells #[.int .u8 255] 5)) HV.out
  go_wp2_with (at_builtin; refine wp_app rfl _ _ rfl w1.heap.size _ [255] rfl (Own.lit (w := w1) (B := w1.heap.size) _ [255] rfl (Nat.le_refl _) (by decide)) _ l rfl hm1 ?d5 ?d6 ?_)
  case d5 => simp; omega
  case d6 => simp
  intro v2 w2 ho2 hg2 _
  have hb2 : Below w1.heap.size w1 w2 := ((Below.refl _ w1).alloc (Nat.le_refl _) _).grown hg2 (by simp) (by intro k hk; simp [Value.ownBlock] at hk; omega)
  have hB2 : Below w.heap.size w w2 := hB1.trans (hb2.mono hs1)
  have hs2 := hB2.size
  clear hg2 hb2 hm1 hB1 hs1
  go_wp2_with fail
  refine (new_any v2 _ _ ho2.rd (.inr fun g hg => (ho2.lt g hg).2) (by simp; omega)).mono ?_
  rintro e w3 ⟨r, rfl, hr3, hb3⟩
  have hB3 : Below w.heap.size w w3 := hB2.trans (hb3.mono hs2)
  have hrb : w.heap.size ≤ r := Nat.le_trans hs2 hr3.1
  have hs3 := hB3.size
  obtain ⟨e1, hn1, he1, he2⟩ := stops_num l
  have hl3 : (255 :: l).length ≤ 400000 := by simp; omega
  have HN := Lib.hid hn1
  clear hb3 ho2 hB2 hs2 hn1
  go_wp2_with fail
  refine (rnum_at HN.out hr3 (by decide) hl3 (by decide) (by decide)).mono ?_
  rintro e w4 ⟨rfl, hg4⟩
  have hB4 : Below w.heap.size w w4 := hB3.trans (hg4.below hs3 hrb)
  have hr4 := hg4.1
  have hs4 := hB4.size
  clear hg4 hr3 hB3 hs3
  go_wp2_with fail
  refine (rerr_any _ _ _ _ _ _ hr4).mono ?_
  rintro e w5 ⟨rfl, rfl⟩
  have heb : ((e1 : Int) == 0) = false := beq_eq_false_iff_ne.2 (by omega)
  have h30b : decide (30 < (l.length : Int)) = false := decide_eq_false (by omega)
  have h20b : decide (20 < (len : Int)) = false := decide_eq_false (by omega)
  go_wp2
  go_loopw [7] (fun i wr => ∃ j : Nat, i = .int .i64 j ∧ j ≤ len ∧ Rdr wr w2.heap.size r (255 :: l) 0 e1 ∧ Below w.heap.size w wr) (fun i _ => len - (intOf i).toNat)
  case atStart => exact ⟨0, rfl, Nat.zero_le _, hr4, hB4⟩
  case round =>
    clear hr4 hB4 hs4
    obtain ⟨j, rfl, hj, hr0, hB0⟩ := hrel
    by_cases hlt : j < len
    · obtain ⟨b, off, rfl, hlc, hacts⟩ := acts_some HI.out (by omega)
      obtain ⟨hact, _, _, hM1, hM2⟩ := hacts j hlt
      have hc0 := (hact.below hB0).2
      have hs0 := hB0.size
      have HA := Lib.hid hact
      clear hacts hact
      go_wp2_with fail
      refine (rnum_stop he1 hr0 he2 hl3 hM1 hM2).mono ?_
      rintro e w5 ⟨rfl, hg5⟩
      have hB5 : Below w.heap.size w w5 := hB0.trans (hg5.below hs0 hrb)
      have hr5 := hg5.1
      have hs5 := hB5.size
      have hc5 := (HA.out.below hB5).2
      clear hg5 hr0 hB0 hs0 hc0
      go_wp2_with fail
      refine (rint_stop he1 hr5 he2 hl3).mono ?_
      rintro e w6 ⟨rfl, hg6⟩
      have hB6 : Below w.heap.size w w6 := hB5.trans (hg6.below hs5 hrb)
      have hr6 := hg6.1
      have hs6 := hB6.size
      have hc6 := (HA.out.below hB6).2
      clear hg6 hr5 hB5 hs5 hc5
      go_wp2_with fail
      refine (rtext_stop he1 hr6 he2 hl3 hM1 hM2).mono ?_
      rintro e w7 ⟨rfl, hg7⟩
      have hB7 : Below w.heap.size w w7 := hB6.trans (hg7.below hs6 hrb)
      have hr7 := hg7.1
      have hs7 := hB7.size
      have hc7 := (HA.out.below hB7).2
      clear hg7 hr6 hB6 hs6 hc6
      go_wp2_with fail
      refine (rtwo_stop he1 hr7 he2 hl3 hM1 hM2).mono ?_
      rintro e w8 ⟨rfl, hg8⟩
      have hB8 : Below w.heap.size w w8 := hB7.trans (hg8.below hs7 hrb)
      have hr8 := hg8.1
      have hs8 := hB8.size
      clear hg8 hr7 hB7 hs7 hc7
      go_wp2_with fail
      refine (rerr_any _ _ _ _ _ _ hr8).mono ?_
      rintro e w9 ⟨rfl, rfl⟩
      go_wp2_with fail
      refine (rdone_stop he1 hr8 hl3).mono ?_
      rintro e w10 ⟨rfl, hg10⟩
      have hB10 : Below w.heap.size w w10 := hB8.trans (hg10.below hs8 hrb)
      have hr10 := hg10.1
      clear hg10 hr8 hB8 hs8
      go_wp2
      go_roundw
      case rel => exact ⟨j + 1, by go_num, by omega, hr10, hB10⟩
      case measure => simp [intOf]; omega
    · go_wp2
      go_ret
      exact ⟨rfl, hB0⟩

end Go.Proofs.Ytpkkehgbnhjnaaa
