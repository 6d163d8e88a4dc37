/- What the answers' own Reader answers: fail, Num. -/
import Derived.Test.YtnpbhpidciiciaaStop
import Derived.Test.YtnpbhpidciiciaaRef
namespace Go.Proofs.Ytnpbhpidciiciaa
open Go.RowKit

/-- the answers' Reader in block qb: the bytes bs lie below block M, k of them are taken, its error is e -/
def Ref (w : World) (M qb : Nat) (bs : List UInt8) (k e : Nat) : Prop :=
  M ≤ qb ∧ k ≤ bs.length ∧ ∃ p c, w.heap[qb]? = some (.cells #[.slice p bs.length c, .int .i64 k, .int .i64 e] 44 (0, 0)) ∧ Rd w (.slice p bs.length c) bs ∧
    (bs = [] ∨ ∀ g, (Value.slice p bs.length c).ownBlock = some g → g < M)

def GoneF (w w' : World) (M qb : Nat) (bs : List UInt8) (k e : Nat) : Prop := Ref w' M qb bs k e ∧ w.grownBy w' (some qb)

theorem Rd.grown {w w' : World} {v : Value} {l : List UInt8} {r : Option Nat} (h : Rd w v l) (hg : w.grownBy w' r) (hv : l = [] ∨ ∀ g, v.ownBlock = some g → g < w.heap.size ∧ some g ≠ r) : Rd w' v l := by
  obtain ⟨p, cap, rfl, h1, h2, h3⟩ := h
  refine ⟨p, cap, rfl, h1, h2, fun a ha i x hx => ?_⟩
  rcases hv with rfl | hv
  · simp at hx
  · have := hv a.block (by rw [ha]; rfl)
    have hb := hg.block a.block this.1 this.2
    rw [World.cell?_of_block (w := w) (a := a.add i) (by rw [add_block]; exact hb)]
    exact h3 a ha i x hx

theorem Ref.lt {w : World} {M qb : Nat} {bs : List UInt8} {k e : Nat} (h : Ref w M qb bs k e) : qb < w.heap.size := by
  obtain ⟨_, _, p, c, hx, _⟩ := h
  exact (Array.getElem?_eq_some_iff.1 hx).1

theorem Ref.drewN {w : World} {M qb : Nat} {bs : List UInt8} {k e : Nat} (h : Ref w M qb bs k e) (n : Nat) : Ref (w.drewN n) M qb bs k e := h

theorem GoneF.drewN {w w' : World} {M qb : Nat} {bs : List UInt8} {k e n : Nat} (h : GoneF (w.drewN n) w' M qb bs k e) : GoneF w w' M qb bs k e := ⟨h.1, grown_trans (grown_drewN w n _) h.2⟩

theorem Ref.cells {w : World} {M qb : Nat} {bs : List UInt8} {k e : Nat} (h : Ref w M qb bs k e) : ∃ p c, Rd w (.slice p bs.length c) bs ∧ bs.length ≤ c ∧ qb < w.heap.size ∧
    w.cell? ⟨qb, 0, none⟩ = some (.slice p bs.length c) ∧ w.cell? ⟨qb, 1, none⟩ = some (.int .i64 k) ∧ w.cell? ⟨qb, 2, none⟩ = some (.int .i64 e) ∧
    w.frozen? ⟨qb, 1, none⟩ = false ∧ w.frozen? ⟨qb, 2, none⟩ = false := by
  obtain ⟨_, _, p, c, hb, hr, _⟩ := h
  have hlt := (Array.getElem?_eq_some_iff.1 hb).1
  obtain ⟨p', c', hpc, hle, _⟩ := id hr
  simp only [Value.slice.injEq] at hpc
  obtain ⟨rfl, _, rfl⟩ := hpc
  refine ⟨p, c, hr, hle, hlt, ?_, ?_, ?_, ?_, ?_⟩
  · simp [World.cell?, hb]
  · simp [World.cell?, hb]
  · simp [World.cell?, hb]
  · simp [World.frozen?, hb]
  · simp [World.frozen?, hb]

theorem Ref.set {w : World} {M qb : Nat} {bs : List UInt8} {k e : Nat} (h : Ref w M qb bs k e) : (∀ x : Nat, GoneF w (w.setCell ⟨qb, 2, none⟩ (.int .i64 x)) M qb bs k x) ∧ ∀ x : Nat, x ≤ bs.length → GoneF w (w.setCell ⟨qb, 1, none⟩ (.int .i64 x)) M qb bs x e := by
  obtain ⟨h1, h2, p, c, hb, hr, hv⟩ := h
  have hlt := (Array.getElem?_eq_some_iff.1 hb).1
  have hv' : bs = [] ∨ ∀ g, (Value.slice p bs.length c).ownBlock = some g → g < w.heap.size ∧ some g ≠ some qb := hv.imp id (fun h g hg => ⟨by have := h g hg; omega, by have := h g hg; intro e; cases e; omega⟩)
  refine ⟨fun x => ⟨⟨h1, h2, p, c, ?_, hr.grown (grown_set w qb 2 _) hv', hv⟩, grown_set w qb 2 _⟩, fun x hx => ⟨⟨h1, hx, p, c, ?_, hr.grown (grown_set w qb 1 _) hv', hv⟩, grown_set w qb 1 _⟩⟩
  · rw [heap_setCell_same w qb 2 _ _ _ hb]; rfl
  · rw [heap_setCell_same w qb 1 _ _ _ hb]; rfl

set_option maxHeartbeats 400000 in
set_option maxRecDepth 100000 in
theorem fail_any (M qb : Nat) (bs : List UInt8) (k e x : Nat) (w : World) (h : Ref w M qb bs k e) :
    Calls Try.prog 40 #[.pointer (some ⟨qb, 0, none⟩), .int .i64 x] w fun r w' => r = .returned (.int .i64 0) ∧ GoneF w w' M qb bs k x := by
  obtain ⟨p, c, hr, _, hlt, c0, c1, c2, f1, f2⟩ := h.cells
  have HF := Lib.hid (h.set.1 x)
  clear hr
  go_enter Try.func40, Try.ntmps40
  go_wp2
  go_ret
  exact ⟨rfl, HF.out⟩

/-- the byte at i of a readable slice that is not empty -/
theorem rd_byte {w : World} {p : Option Addr} {c : Nat} {bs : List UInt8} (h : Rd w (.slice p bs.length c) bs) (hne : 0 < bs.length) :
    ∃ g off, p = some ⟨g, off, none⟩ ∧ ∀ i, i < bs.length → ∃ n : Nat, n < 256 ∧ (∃ u : UInt8, n = u.toNat ∧ bs[i]? = some u) ∧ w.cell? ⟨g, off + i, none⟩ = some (.int .u8 (n : Int)) := by
  obtain ⟨p', c', hpc, _, hn, hc⟩ := h
  simp only [Value.slice.injEq] at hpc
  obtain ⟨rfl, _, rfl⟩ := hpc
  cases p with
  | none => have := hn rfl; omega
  | some a =>
    have h0 := hc a rfl 0 bs[0] (List.getElem?_eq_getElem hne)
    have e0 : a.add 0 = a := by simp [Addr.add]
    rw [e0] at h0
    have hs := spot_of_cell h0
    refine ⟨a.block, a.off, ?_, fun i hi => ⟨bs[i].toNat, bs[i].toNat_lt, ⟨bs[i], rfl, List.getElem?_eq_getElem hi⟩, ?_⟩⟩
    · obtain ⟨b, o, s⟩ := a
      simp only at hs
      subst hs
      rfl
    · rw [← add_add a i hs, hc a rfl i bs[i] (List.getElem?_eq_getElem hi)]
      rfl

theorem DecAt.nextV {m : Nat} {bs : List UInt8} {k i u n : Nat} (h : DecAt m bs k i u) (hi : i < 9) (hb : ∃ c : UInt8, n = c.toNat ∧ bs[k + i]? = some c) (hn : ¬ n < 128) : DecAt m bs k (i + 1) (u + n % 128 * 2 ^ (7 * i)) := by
  refine ⟨pow_step h.1, ?_⟩
  obtain ⟨c, hc, hx⟩ := hb
  obtain ⟨hlt, hx⟩ := List.getElem?_eq_some_iff.1 hx
  have := h.2
  rw [List.drop_eq_getElem_cons hlt, hx, dec, if_neg (by omega), if_neg (by omega), ← hc] at this
  rw [← this, Nat.add_assoc]

theorem DecAt.stopV {m : Nat} {bs : List UInt8} {k i u n : Nat} (h : DecAt m bs k i u) (hi : i < 9) (hb : ∃ c : UInt8, n = c.toNat ∧ bs[k + i]? = some c) (hn : n < 128) :
    lookR bs k 0 m = wholeR (u + n % 128 * 2 ^ (7 * i)) (i + 1) n m := by
  obtain ⟨c, hc, hx⟩ := hb
  obtain ⟨hlt, hx⟩ := List.getElem?_eq_some_iff.1 hx
  have := h.2
  rw [List.drop_eq_getElem_cons hlt, hx, dec, if_neg (by omega), if_pos (by omega), ← hc] at this
  unfold lookR
  rw [if_pos rfl, ← this, Nat.mod_eq_of_lt hn]

theorem DecAt.nineV {m : Nat} {bs : List UInt8} {k u n : Nat} (h : DecAt m bs k 8 u) (hb : ∃ c : UInt8, n = c.toNat ∧ bs[k + 8]? = some c) (hn : ¬ n < 128) : lookR bs k 0 m = (0, 0, 21) := by
  have h9 := (h.nextV (by decide) hb hn).2
  rw [dec_end m (8 + 1) _ (by decide) _ (.inr rfl)] at h9
  unfold lookR
  rw [if_pos rfl, ← h9]
  rfl

theorem numR_look {bs : List UInt8} {k e m a s x : Nat} (h : lookR bs k e m = (a, s, x)) : numR bs k e m = if x = 0 then (a, k + s, 0) else (0, k, x) := by
  unfold numR
  rw [h]

theorem pow_63 {i u : Nat} (hi : i ≤ 9) (hu : u < 2 ^ (7 * i)) : u ≤ 9223372036854775807 := by
  have h1 : 2 ^ (7 * i) ≤ 2 ^ 63 := Nat.pow_le_pow_right (by decide) (by omega)
  have h2 : 2 ^ 63 = 9223372036854775808 := by decide
  omega

/-- the sum of what stands at i, kept whole -/
def accV (u n i : Nat) : Nat := u + n % 128 * 2 ^ (7 * i)

theorem step_or127 (n i u : Nat) (hn : n < 256) (hi : i < 9) (hu : u < 2 ^ (7 * i)) :
    bits .or .u64 (u : Int) (IntKind.u64.wrap (IntKind.u64.wrap (bits .and .u8 (n : Int) 127) * 2 ^ (7 * i))) = ((accV u n i : Nat) : Int) := by
  have h := step_or n i u hn hi hu
  rw [not128 n hn] at h
  rw [and127 n hn]
  exact h

set_option maxHeartbeats 400000 in
set_option maxRecDepth 100000 in
theorem fnumr_err (M qb : Nat) (bs : List UInt8) (k e : Nat) (most : Int) (w : World) (h : Ref w M qb bs k e) (he : e ≠ 0) :
    Calls Try.prog 31 #[.pointer (some ⟨qb, 0, none⟩), .int .i64 most] w fun r w' => r = .returned (.int .i64 0) ∧ w = w' := by
  obtain ⟨p, c, hr, _, hlt, c0, c1, c2, f1, f2⟩ := h.cells
  have heb : ((e : Int) == 0) = false := beq_eq_false_iff_ne.2 (by omega)
  have hen : ((e : Int) != 0) = true := by rw [bne_iff_ne]; omega
  clear hr
  go_enter Try.func31, Try.ntmps31
  go_wp2
  go_ret
  exact ⟨rfl, rfl⟩

set_option maxHeartbeats 2000000 in
set_option maxRecDepth 100000 in
theorem fnumr_ok (M qb : Nat) (bs : List UInt8) (k : Nat) (most : Int) (w : World) (h : Ref w M qb bs k 0) (hl : bs.length ≤ 400000) (h1 : -9223372036854775808 ≤ most) (h2 : most ≤ 9223372036854775807) :
    Calls Try.prog 31 #[.pointer (some ⟨qb, 0, none⟩), .int .i64 most] w fun r w' => ∃ v k' e' : Nat, Hid (numR bs k 0 (cnt most) = (v, k', e')) ∧ r = .returned (.int .i64 v) ∧ GoneF w w' M qb bs k' e' := by
  have hk := h.2.1
  obtain ⟨p, c, hr, hlc, hlt, c0, c1, c2, f1, f2⟩ := h.cells
  have HRD := Lib.hid hr
  clear hr
  go_enter Try.func31, Try.ntmps31
  go_wp2
  go_loopw [5, 6] (fun x j wr => ∃ i u q : Nat, wr = w.drewN q ∧ i ≤ 8 ∧ x = .int .u64 u ∧ j = .int .i64 i ∧ DecAt (cnt most) bs k i u) (fun _ j _ => 9 - (intOf j).toNat)
  case atStart => exact ⟨0, 0, 0, rfl, by omega, rfl, rfl, by unfold DecAt; simp⟩
  case round =>
    obtain ⟨i, u, q, rfl, hi, rfl, rfl, hd⟩ := hrel
    by_cases hin : k + i < bs.length
    · obtain ⟨g, off, rfl, hby⟩ := rd_byte HRD.out (by omega)
      obtain ⟨n, hn, hbyte, hcell⟩ := hby (k + i) hin
      have hacc := step_or127 n i u hn (by omega) hd.1
      have hpow := pow_step (n := n) hd.1
      have h63 : accV u n i ≤ 9223372036854775807 := pow_63 (by omega) hpow
      clear hby hpow
      have hi9b : ((i : Int) == 9) = false := beq_eq_false_iff_ne.2 (by omega)
      have hcm : ((cnt most : Nat) : Int) = max most 0 := by unfold cnt; omega
      have HCM := Lib.hid hcm
      clear hcm
      by_cases hn1 : n < 128
      · have hlook := hd.stopV (by omega) hbyte hn1
        clear hbyte
        by_cases hn0 : n = 0
        · subst hn0
          by_cases hi0 : 0 < i
          · have HN := Lib.hid (numR_look (hlook.trans (by unfold wholeR; rw [if_pos ⟨rfl, by omega⟩])))
            clear hlook hacc
            rcases Bool.eq_false_or_eq_true ((i : Int) == 8) with hi8b | hi8b
            all_goals
              go_wp2
              go_quiet (fail)
              go_wp2
              go_quiet (fail)
              go_wp2_with fail
              refine (fail_any M qb bs k 0 21 _ (h.drewN _)).mono ?_
              rintro r w2 ⟨rfl, hg⟩
              have hg' := hg.drewN
              clear hg
              go_wp2
              go_ret
              exact ⟨0, k, 21, Lib.hid (by have := HN.out; simpa using this), rfl, hg'⟩
          · obtain rfl : i = 0 := by omega
            obtain rfl : u = 0 := by have := hd.1; simp at this; omega
            have HN := Lib.hid (numR_look (hlook.trans (by unfold wholeR; rw [if_neg (by omega), if_neg (by omega)])))
            have hz1 : bits .and .u8 0 127 = 0 := by have := and127 0 (by decide); simpa using this
            have hz2 : bits .or .u64 0 0 = 0 := by have := u64_or_nat 0 0 (by decide) (by decide); simpa using this
            rw [Nat.add_zero] at hin hcell
            clear hlook hacc h63
            by_cases hpos : 0 ≤ most
            all_goals
              go_wp2
              go_quiet (fail)
              go_wp2
              go_quiet (fail)
              go_wp2
              go_ret
              exact ⟨0, k + 1, 0, Lib.hid (by have := HN.out; simpa using this), rfl, ((h.drewN _).set.2 (k + 1) (by omega)).drewN⟩
        · have hnb : ((n : Int) == 0) = false := beq_eq_false_iff_ne.2 (by omega)
          rcases Bool.eq_false_or_eq_true ((i : Int) == 8) with hi8b | hi8b
          all_goals
            by_cases hpos : 0 ≤ most
            · by_cases hbig : cnt most < accV u n i
              · have hbigI : most < (accV u n i : Int) := by have := HCM.out; omega
                have HN := Lib.hid (numR_look (hlook.trans (by unfold wholeR; rw [if_neg (by omega), if_pos (show cnt most < u + n % 128 * 2 ^ (7 * i) from hbig)])))
                go_wp2
                go_quiet (fail)
                go_wp2
                go_quiet (fail)
                go_wp2_with fail
                refine (fail_any M qb bs k 0 22 _ (h.drewN _)).mono ?_
                rintro r w2 ⟨rfl, hg⟩
                have hg' := hg.drewN
                clear hg
                go_wp2
                go_ret
                exact ⟨0, k, 22, Lib.hid (by have := HN.out; simpa using this), rfl, hg'⟩
              · have hsmI : (accV u n i : Int) ≤ most := by have := HCM.out; omega
                have HN := Lib.hid (numR_look (hlook.trans (by unfold wholeR; rw [if_neg (by omega), if_neg (show ¬ cnt most < u + n % 128 * 2 ^ (7 * i) from hbig)])))
                go_wp2
                go_quiet (fail)
                go_wp2
                go_quiet (fail)
                go_wp2
                go_ret
                exact ⟨accV u n i, k + (i + 1), 0, Lib.hid (by have := HN.out; rw [if_pos trivial] at this; exact this), rfl, ((h.drewN _).set.2 (k + (i + 1)) (by omega)).drewN⟩
            · by_cases hbig : cnt most < accV u n i
              · have hbigI : (0 : Int) < (accV u n i : Int) := by have := HCM.out; omega
                have HN := Lib.hid (numR_look (hlook.trans (by unfold wholeR; rw [if_neg (by omega), if_pos (show cnt most < u + n % 128 * 2 ^ (7 * i) from hbig)])))
                go_wp2
                go_quiet (fail)
                go_wp2
                go_quiet (fail)
                go_wp2_with fail
                refine (fail_any M qb bs k 0 22 _ (h.drewN _)).mono ?_
                rintro r w2 ⟨rfl, hg⟩
                have hg' := hg.drewN
                clear hg
                go_wp2
                go_ret
                exact ⟨0, k, 22, Lib.hid (by have := HN.out; simpa using this), rfl, hg'⟩
              · have hsmI : (accV u n i : Int) ≤ (0 : Int) := by have := HCM.out; omega
                have HN := Lib.hid (numR_look (hlook.trans (by unfold wholeR; rw [if_neg (by omega), if_neg (show ¬ cnt most < u + n % 128 * 2 ^ (7 * i) from hbig)])))
                go_wp2
                go_quiet (fail)
                go_wp2
                go_quiet (fail)
                go_wp2
                go_ret
                exact ⟨accV u n i, k + (i + 1), 0, Lib.hid (by have := HN.out; rw [if_pos trivial] at this; exact this), rfl, ((h.drewN _).set.2 (k + (i + 1)) (by omega)).drewN⟩
      · by_cases hi8 : i = 8
        · subst hi8
          have HN := Lib.hid (numR_look (hd.nineV hbyte hn1))
          clear hbyte hacc
          go_wp2
          go_quiet (fail)
          go_wp2
          go_quiet (fail)
          go_wp2_with fail
          refine (fail_any M qb bs k 0 21 _ (h.drewN _)).mono ?_
          rintro r w2 ⟨rfl, hg⟩
          have hg' := hg.drewN
          clear hg
          go_wp2
          go_ret
          exact ⟨0, k, 21, Lib.hid (by have := HN.out; simpa using this), rfl, hg'⟩
        · have hnext : DecAt (cnt most) bs k (i + 1) (accV u n i) := hd.nextV (by omega) hbyte hn1
          have hi8b : ((i : Int) == 8) = false := beq_eq_false_iff_ne.2 (by omega)
          clear hbyte
          go_wp2
          go_quiet (fail)
          go_wp2
          go_quiet (fail)
          go_wp2
          go_roundw
          case rel => exact ⟨i + 1, accV u n i, _, rfl, by omega, by go_num, by go_num, hnext⟩
          case measure => simp [intOf]; omega
    · have hlook := hd.over (by omega) hk (.inl (by omega)) 20 (by rw [if_pos (by omega)])
      have HN := Lib.hid (numR_look hlook)
      clear hlook
      go_wp2
      go_quiet (fail)
      go_wp2_with fail
      refine (fail_any M qb bs k 0 20 _ (h.drewN _)).mono ?_
      rintro r w2 ⟨rfl, hg⟩
      have hg' := hg.drewN
      clear hg
      go_wp2
      go_ret
      exact ⟨0, k, 20, Lib.hid (by have := HN.out; simpa using this), rfl, hg'⟩

end Go.Proofs.Ytnpbhpidciiciaa
